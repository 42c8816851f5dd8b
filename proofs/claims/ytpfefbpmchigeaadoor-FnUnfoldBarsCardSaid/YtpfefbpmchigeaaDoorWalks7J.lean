/- Chapter 7 in the program: the jumps by which sections are played. -/
import Derived.Test.YtpfefbpmchigeaaDoorWalks7I
import Derived.Test.YtpfefbpmchigeaaDoorWalks7P
import Derived.Test.YtpfefbpmchigeaaDoorWalksPS
namespace Go.Proofs.YtpfefbpmchigeaaDoor
set_option linter.unusedSimpArgs false
set_option linter.unusedVariables false
open Go.RowKit

theorem infoJ7 : (Tryd.prog.info? 56).map (fun i => (i.zero, i.size, i.bytes)) = some (some (.agg #[.int .i64 0, .int .i64 0]), 2, 16) := by kernel_rfl
theorem one2 {x y : Int} : ∀ u ∈ [Value.int .i64 x, .int .i64 y], u.oneCell' = true := by
  intro u hu
  simp at hu
  rcases hu with rfl | rfl <;> rfl
theorem jpC_up (l : List Jp) (x y : Int) : jpC l ++ [Value.int .i64 x, .int .i64 y] = jpC (l ++ [(x, y)]) := by rw [jpC_append]; rfl

set_option maxHeartbeats 8000000 in
theorem jmI_none (s : Sec) (ev : Value) (g : Int) (w : World) (he : IntsAt w ev s.e) (hv : seB s = true) (g0 : 0 ≤ g) (g1 : g ≤ 1000) (hemp : s.e = []) :
    Calls Tryd.prog 41 #[.agg #[.int .i64 s.b, .int .i64 s.t, ev], .int .i64 g] w (RowOut 56 2 (jmS g s).length (jpC (jmS g s)) w) := by
  have hO := Own.start w
  have hF := True.intro
  obtain ⟨i0, hi, hz0, hz1, hz2⟩ := info_parts infoJ7
  obtain ⟨_, bb, tb, _⟩ := seB_iff.1 hv
  obtain ⟨A, c, rfl, hA⟩ := he.open (by rw [hemp]; simp)
  rw [show s.e.length = 0 by rw [hemp]; rfl]
  have HH := hid (heI_is (n := 0) (o := false) rfl)
  have HE := hid (show jmS g s = List.replicate s.t.toNat (g, s.b) by unfold jmS; rw [if_pos hemp])
  obtain ⟨J, hJ⟩ : ∃ J, jmS g s = J := ⟨_, rfl⟩
  rw [hJ] at HE
  rw [hJ]
  clear he hA hv hemp hJ
  go_enter Tryd.func41, Tryd.ntmps41
  go_wp2_with fail
  (apply own_code hO; (repeat (first | (with_reducible exact hO) | (with_reducible apply Own.alloc) | (with_reducible apply Own.drew) | ((with_reducible apply Own.set_at); (focus (show _ ≤ _; omega))))); have hG := hF; clear hF; clear hO; intro hO; (try simp only [World.size_alloc1, World.size_drew, Nat.reduceAdd] at hO); (try simp only [upd, updI, List.map_cons, List.map_nil, eq_self, if_true, if_false, reduceIte, Nat.add_eq_left, Nat.left_eq_add, Nat.reduceEqDiff, List.set_cons_zero, List.set_cons_succ, hG] at hO); clear hG; have hF := hO; (try simp only [Own, Item.Holds, apartI, CellsAt, Nat.reduceAdd, Nat.zero_add, List.mem_cons, List.not_mem_nil, or_false, forall_eq_or_imp, forall_eq, ne_eq, false_imp_iff, implies_true, and_true] at hF))
  replace hO := hO.nilRow 56 2
  clear hF
  obtain ⟨q, hq⟩ : ∃ q, w.heap.size = q := ⟨_, rfl⟩
  rw [hq] at hO ⊢
  have HQ := hid hq
  clear hq
  go_loopw [5, 6, 14] (fun o z t wr => ∃ i : Nat, (i : Int) ≤ s.t ∧ t = .int .i64 i ∧ z = .int .i64 (g + s.b) ∧ Own q (Below q w) wr [.row 56 2 o (List.replicate i (g, s.b)).length (jpC (List.replicate i (g, s.b))), .blk q [.int .i64 s.b, .int .i64 s.t, .slice A 0 c]]) (fun _ _ t _ => (s.t - intOf t).toNat)
  case atStart => exact ⟨0, by omega, rfl, rfl, hO⟩
  case round =>
    clear hO
    obtain ⟨i, hi', rfl, rfl, hO⟩ := hrel
    have hF := hO; (try simp only [Own, Item.Holds, apartI, CellsAt, Nat.reduceAdd, Nat.zero_add, List.mem_cons, List.not_mem_nil, or_false, forall_eq_or_imp, forall_eq, ne_eq, false_imp_iff, implies_true, and_true] at hF)
    have il : (List.replicate i (g, s.b)).length = i := List.length_replicate
    by_cases hie : (i : Int) = s.t
    · have e1 : List.replicate i (g, s.b) = J := by rw [HE.out, show s.t.toNat = i by omega]
      have i1 : ¬ ((i : Int) < s.t) := by omega
      rw [e1] at hO
      clear il hie e1 hi'
      go_wp2_with fail
      go_ret
      obtain rfl := HQ.out
      exact RowOut.mk hO
    · have hil : (i : Int) < s.t := by omega
      have HJ := hid (And.intro hi' hil)
      clear hie hi'
      go_wp2_with (first | (at_builtin; apply own_list hO; (repeat (first | (with_reducible exact hO) | (with_reducible apply Own.alloc) | (with_reducible apply Own.drew) | ((with_reducible apply Own.set_at); (focus (show _ ≤ _; omega))))); have hG := hF; clear hF; clear hO; intro hO; (try simp only [World.size_alloc1, World.size_drew, Nat.reduceAdd] at hO); (try simp only [upd, updI, List.map_cons, List.map_nil, eq_self, if_true, if_false, reduceIte, Nat.add_eq_left, Nat.left_eq_add, Nat.reduceEqDiff, List.set_cons_zero, List.set_cons_succ, hG] at hO); clear hG; (try simp only [World.size_setCell] at hO); refine wpList_append_item rfl _ _ 53 rfl 56 i0 (.agg #[.int .i64 0, .int .i64 0]) 2 16 Tryd.underlying53 hi hz0 hz1 hz2 rfl (by decide) rfl rfl hO rfl one2 (by unfold maxLen; omega) (by omega) ?_; clear hO; intro v' w2 hO _; have hF := hO; (try simp only [Own, Item.Holds, apartI, CellsAt, Nat.reduceAdd, Nat.zero_add, List.mem_cons, List.not_mem_nil, or_false, forall_eq_or_imp, forall_eq, ne_eq, false_imp_iff, implies_true, and_true] at hF)) | (go_at_call 29; apply own_at hO; (repeat (first | (with_reducible exact hO) | (with_reducible apply Own.alloc) | (with_reducible apply Own.drew) | ((with_reducible apply Own.set_at); (focus (show _ ≤ _; omega))))); have hG := hF; clear hF; clear hO; intro hO; refine own_call hO (fun hB => HH.out _ _ _ _ _) ?_; clear hO; intro w1 hO; (try simp only [World.size_alloc1, World.size_drew, Nat.reduceAdd] at hO); (try simp only [upd, updI, List.map_cons, List.map_nil, eq_self, if_true, if_false, reduceIte, Nat.add_eq_left, Nat.left_eq_add, Nat.reduceEqDiff, List.set_cons_zero, List.set_cons_succ, hG] at hO); clear hG; have hF := hO; (try simp only [Own, Item.Holds, apartI, CellsAt, Nat.reduceAdd, Nat.zero_add, List.mem_cons, List.not_mem_nil, or_false, forall_eq_or_imp, forall_eq, ne_eq, false_imp_iff, implies_true, and_true] at hF)))
      go_roundw
      case rel => exact ⟨i + 1, by have := HJ.out; omega, by go_num, rfl, by rw [rep_up, List.length_append, ← jpC_up]; exact hO⟩
      case measure => have := HJ.out; simp [intOf]; omega

set_option maxHeartbeats 8000000 in
theorem jmI_ends (s : Sec) (ev : Value) (g : Int) (w : World) (he : IntsAt w ev s.e) (hv : seB s = true) (g0 : 0 ≤ g) (g1 : g ≤ 1000) (hemp : s.e ≠ []) :
    Calls Tryd.prog 41 #[.agg #[.int .i64 s.b, .int .i64 s.t, ev], .int .i64 g] w (RowOut 56 2 (jmS g s).length (jpC (jmS g s)) w) := by
  have hO := Own.start w
  have hF := True.intro
  obtain ⟨i0, hi, hz0, hz1, hz2⟩ := info_parts infoJ7
  obtain ⟨_, bb, tb, h4⟩ := seB_iff.1 hv
  have hst := se_take hv
  have hlt : (s.e.length : Int) = s.t := by
    rcases h4 with h4 | h4
    · exact absurd h4 hemp
    · exact h4
  obtain ⟨A, c, rfl, hA⟩ := he.open (by have := (hst 0).2.2; omega)
  obtain ⟨n, hnl⟩ : ∃ n, s.e.length = n := ⟨_, rfl⟩
  have HN := hid hnl
  rw [hnl] at hA hlt
  rw [hnl]
  have HH := hid (heI_is (n := n) (o := true) (by simp; omega))
  have HE := hid (show jmS g s = jmT g s.b (g + s.b) s.e by unfold jmS; rw [if_neg hemp])
  obtain ⟨J, hJ⟩ : ∃ J, jmS g s = J := ⟨_, rfl⟩
  rw [hJ] at HE
  rw [hJ]
  have HST := hid hst
  have HVO := hid hv
  clear he hv hemp hJ h4 hst hnl
  go_enter Tryd.func41, Tryd.ntmps41
  go_wp2_with fail
  (apply own_code hO; (repeat (first | (with_reducible exact hO) | (with_reducible apply Own.alloc) | (with_reducible apply Own.drew) | ((with_reducible apply Own.set_at); (focus (show _ ≤ _; omega))))); have hG := hF; clear hF; clear hO; intro hO; (try simp only [World.size_alloc1, World.size_drew, Nat.reduceAdd] at hO); (try simp only [upd, updI, List.map_cons, List.map_nil, eq_self, if_true, if_false, reduceIte, Nat.add_eq_left, Nat.left_eq_add, Nat.reduceEqDiff, List.set_cons_zero, List.set_cons_succ, hG] at hO); clear hG; have hF := hO; (try simp only [Own, Item.Holds, apartI, CellsAt, Nat.reduceAdd, Nat.zero_add, List.mem_cons, List.not_mem_nil, or_false, forall_eq_or_imp, forall_eq, ne_eq, false_imp_iff, implies_true, and_true] at hF))
  replace hO := hO.nilRow 56 2
  clear hF
  obtain ⟨q, hq⟩ : ∃ q, w.heap.size = q := ⟨_, rfl⟩
  have HQ := hid hq
  have hA2 := hid (fun (k : Nat) (x : Int) (wr : World) (hB : Below q w wr) (hk : s.e[k]? = some x) (h0 : 0 < n) => show ∃ b off, A = some ⟨b, off, none⟩ ∧ n ≤ c ∧ c ≤ 9223372036854775807 ∧ wr.cell? ⟨b, off + k, none⟩ = some (.int .i64 x) from by
    obtain ⟨b', off, e0, hc1, hc2, hb, hcell⟩ := hA h0
    rw [← HQ.out] at hB
    exact ⟨b', off, e0, hc1, hc2, ((bcell hB).1 b' (off + k) hb).trans (hcell k x hk)⟩)
  rw [hq] at hO ⊢
  clear hq hA
  go_loopw [5, 6, 14] (fun o z t wr => ∃ i : Nat, (i : Int) ≤ s.t ∧ t = .int .i64 i ∧ z = .int .i64 (g + s.b + sumI (s.e.take i)) ∧ Own q (Below q w) wr [.row 56 2 o (jmT g s.b (g + s.b) (s.e.take i)).length (jpC (jmT g s.b (g + s.b) (s.e.take i))), .blk q [.int .i64 s.b, .int .i64 s.t, .slice A n c]]) (fun _ _ t _ => (s.t - intOf t).toNat)
  case atStart => exact ⟨0, by omega, rfl, by simp [sumI], hO⟩
  case round =>
    clear hO
    obtain ⟨i, hi', rfl, rfl, hO⟩ := hrel
    have hF := hO; (try simp only [Own, Item.Holds, apartI, CellsAt, Nat.reduceAdd, Nat.zero_add, List.mem_cons, List.not_mem_nil, or_false, forall_eq_or_imp, forall_eq, ne_eq, false_imp_iff, implies_true, and_true] at hF)
    have il : (jmT g s.b (g + s.b) (s.e.take i)).length ≤ 8 := by rw [jmT_len, List.length_take]; have := HN.out; omega
    obtain ⟨tb1, tb2, _⟩ := HST.out i
    by_cases hie : (i : Int) = s.t
    · have e1 : jmT g s.b (g + s.b) (s.e.take i) = J := by rw [HE.out, show s.e.take i = s.e by rw [List.take_of_length_le]; have := HN.out; omega]
      have i1 : ¬ ((i : Int) < s.t) := by omega
      rw [e1] at hO
      clear il hie e1 hi'
      go_wp2_with fail
      go_ret
      obtain rfl := HQ.out
      exact RowOut.mk hO
    · have hil : (i : Int) < s.t := by omega
      have hil2 : (i : Int) < n := by omega
      obtain ⟨x, hx⟩ : ∃ x, s.e[i]? = some x := ⟨_, List.getElem?_eq_getElem (by have := HN.out; omega)⟩
      have xb := (seB_iff.1 HVO.out).1 x (List.mem_of_getElem? hx)
      have HX := hid hx
      have HP := hid (jmT_up (at' := g) (b := s.b) (en := g + s.b) hx)
      have HU := hid (sum_take_up hx)
      obtain ⟨b', off, rfl, hc1, hc2, _⟩ := hA2.out i x wr hO.base hx (by omega)
      obtain ⟨T, hT⟩ : ∃ T, sumI (s.e.take i) = T := ⟨_, rfl⟩
      obtain ⟨R, hR⟩ : ∃ R, jmT g s.b (g + s.b) (s.e.take i) = R := ⟨_, rfl⟩
      rw [hT] at HU HP tb1 tb2
      rw [hR] at HP hO il
      rw [hT]
      have HJ := hid (And.intro hi' hil)
      clear hie hi' hx hT hR hF
      have hF := hO; (try simp only [Own, Item.Holds, apartI, CellsAt, Nat.reduceAdd, Nat.zero_add, List.mem_cons, List.not_mem_nil, or_false, forall_eq_or_imp, forall_eq, ne_eq, false_imp_iff, implies_true, and_true] at hF)
      have HG := hid (fun (wr : World) (hB : Below q w wr) => show wr.cell? ⟨b', off + i, none⟩ = some (.int .i64 x) from by
        obtain ⟨b2, off2, e0, _, _, h⟩ := hA2.out i x wr hB HX.out (by omega)
        cases e0
        exact h)
      go_wp2_with (first | ((at_builtin; apply own_list hO; (repeat (first | (with_reducible exact hO) | (with_reducible apply Own.alloc) | (with_reducible apply Own.drew) | ((with_reducible apply Own.set_at); (focus (show _ ≤ _; omega))))); have hG := hF; clear hF; clear hO; intro hO; (try simp only [World.size_alloc1, World.size_drew, Nat.reduceAdd] at hO); (try simp only [upd, updI, List.map_cons, List.map_nil, eq_self, if_true, if_false, reduceIte, Nat.add_eq_left, Nat.left_eq_add, Nat.reduceEqDiff, List.set_cons_zero, List.set_cons_succ, hG] at hO); clear hG; (try simp only [World.size_setCell] at hO); skip; refine wpList_append_item rfl _ _ 53 rfl 56 i0 (.agg #[.int .i64 0, .int .i64 0]) 2 16 Tryd.underlying53 hi hz0 hz1 hz2 rfl (by decide) rfl rfl hO rfl one2 (by unfold maxLen; omega) (by omega) ?_; clear hO; intro v' w2 hO _; have hF := hO; (try simp only [Own, Item.Holds, apartI, CellsAt, Nat.reduceAdd, Nat.zero_add, List.mem_cons, List.not_mem_nil, or_false, forall_eq_or_imp, forall_eq, ne_eq, false_imp_iff, implies_true, and_true] at hF)); have cx := HG.out _ hO.base) | ((go_at_call 29; apply own_at hO; (repeat (first | (with_reducible exact hO) | (with_reducible apply Own.alloc) | (with_reducible apply Own.drew) | ((with_reducible apply Own.set_at); (focus (show _ ≤ _; omega))))); have hG := hF; clear hF; clear hO; intro hO; refine own_call hO (fun hB => HH.out _ _ _ _ _) ?_; clear hO; intro w1 hO; (try simp only [World.size_alloc1, World.size_drew, Nat.reduceAdd] at hO); (try simp only [upd, updI, List.map_cons, List.map_nil, eq_self, if_true, if_false, reduceIte, Nat.add_eq_left, Nat.left_eq_add, Nat.reduceEqDiff, List.set_cons_zero, List.set_cons_succ, hG] at hO); clear hG; have hF := hO; (try simp only [Own, Item.Holds, apartI, CellsAt, Nat.reduceAdd, Nat.zero_add, List.mem_cons, List.not_mem_nil, or_false, forall_eq_or_imp, forall_eq, ne_eq, false_imp_iff, implies_true, and_true] at hF)); have cx := HG.out _ hO.base))
      go_roundw
      case rel => exact ⟨i + 1, by have := HJ.out; omega, by go_num, by rw [HU.out]; congr 1; omega, by rw [HP.out, List.length_append, List.length_append, ← jpC_up, ← jpC_up]; exact hO⟩
      case measure => have := HJ.out; simp [intOf]; omega
theorem jmI_is {s : Sec} {ev : Value} {g : Int} {w : World} (he : IntsAt w ev s.e) (hv : seB s = true) (g0 : 0 ≤ g) (g1 : g ≤ 1000) (W : World) (hW : Below w.heap.size w W) :
    Calls Tryd.prog 41 #[.agg #[.int .i64 s.b, .int .i64 s.t, ev], .int .i64 g] W (RowOut 56 2 (jmS g s).length (jpC (jmS g s)) W) := by
  by_cases h : s.e = []
  · exact jmI_none s ev g W (he.below hW) hv g0 g1 h
  · exact jmI_ends s ev g W (he.below hW) hv g0 g1 h
end Go.Proofs.YtpfefbpmchigeaaDoor
