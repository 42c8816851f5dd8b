/- Chapter 6 in the program: the last bar filled. -/
import Derived.Test.YtcifmpjefhichaaDoorWalks6I
import Derived.Test.YtcifmpjefhichaaDoorWalks6S
import Derived.Test.YtcifmpjefhichaaDoorOwnMake
namespace Go.Proofs.YtcifmpjefhichaaDoor
set_option linter.unusedSimpArgs false
set_option linter.unusedVariables false
open Go.RowKit

set_option maxRecDepth 20000 in
set_option maxHeartbeats 8000000 in
theorem fiI_in (va : Value) (v : List Nt) (b u : Int) (n : Nat) (w : World) (hTB : TabB w) (hnl : v.length = n) (hs : SlAt w va n 6 (vcC v)) (hv : voB v = true) (hm : meB b u = true) :
    Calls Tryd.prog 37 #[va, .agg #[.int .i64 b, .int .i64 u]] w (RowOutB 46 6 (fiL v b u).length (vcC (fiL v b u)) (fiB v b u) w) := by
  have hO := Own.start w
  have hF := True.intro
  obtain ⟨i0, hi0, hz0, hz1, hz2⟩ := info_parts infoN
  obtain ⟨A, c, rfl, nb, hA⟩ := hs.open
  have HA := hid hs
  have HN := hid hnl
  have hn60 : n ≤ 60 := by have := (voB_iff.1 hv).2; omega
  have HV := hid (voI_is hnl hs (by omega) hv)
  have HM := hid (meI_is hTB hm)
  have HB := hid (btI_is hTB (show btZ b u = baZ b u by unfold btZ; rw [hm]; rfl))
  have hb := ba_bd hm
  have hcb := bc_bd hv hm
  have hsb := sum_bd hv
  have hlb := lf_bd hv hm
  have HL := hid (show lfN v b u = bcN v b u * baZ b u - sumT v from rfl)
  have HE := hid (show fiB v b u = (lfN v b u == 0 || (decide (lfN v b u ≤ 768) && decide (v.length ≠ 60))) by simp [fiB, hv, hm])
  have HE2 := hid (show fiL v b u = if fiB v b u then (if lfN v b u = 0 then v else v ++ [⟨true, 0, 0, 0, lfN v b u, false⟩]) else [] from rfl)
  rw [← hnl] at hs
  have HC := hid (bcI_is hTB hs (by omega) (show bcZ v b u = bcN v b u by simp [bcZ, hv, hm]))
  have HT := hid (vtI_is hs (by omega) (show vtZ v = sumT v by unfold vtZ; rw [hv]; rfl))
  rw [hnl] at hs HC HT HE
  obtain ⟨p, hp⟩ : ∃ p, baZ b u = p := ⟨_, rfl⟩
  obtain ⟨k, hk⟩ : ∃ k, bcN v b u = k := ⟨_, rfl⟩
  obtain ⟨s, hs'⟩ : ∃ s, sumT v = s := ⟨_, rfl⟩
  obtain ⟨l, hl⟩ : ∃ l, lfN v b u = l := ⟨_, rfl⟩
  rw [hp] at HB hb hcb hlb HL
  rw [hk] at HC hcb HL
  rw [hs'] at HT hsb hcb HL
  rw [hl] at HE HE2 hlb HL
  have w1 : IntKind.i64.wrap (k * p) = k * p := IntWalk.i64_in _ (by omega)
  have w2 : IntKind.i64.wrap (k * p - s) = l := by rw [← HL.out]; exact IntWalk.i64_in _ (by omega)
  have w3 : IntKind.i64.wrap ((n : Int) + 1) = (n : Int) + 1 := IntWalk.i64_in _ (by omega)
  clear hs hnl hv hm hp hk hs' hl hcb hA hTB
  go_enter Tryd.func37, Tryd.ntmps37
  go_wp2_with (first | (go_at_call 31; apply own_at hO; (repeat (first | (with_reducible exact hO) | (with_reducible apply Own.alloc) | (with_reducible apply Own.drew) | ((with_reducible apply Own.set_at); (focus (show _ ≤ _; omega))))); have hG := hF; clear hF; clear hO; intro hO; refine own_call hO (fun hB => HV.out _ hB) ?_; clear hO; intro w1 hO; (try simp only [World.size_alloc1, World.size_drew, Nat.reduceAdd] at hO); (try simp only [upd, updI, List.map_cons, List.map_nil, eq_self, if_true, if_false, reduceIte, Nat.add_eq_left, Nat.left_eq_add, Nat.reduceEqDiff, List.set_cons_zero, List.set_cons_succ, hG] at hO); clear hG; have hF := hO; (try simp only [Own, Item.Holds, apartI, CellsAt, Nat.reduceAdd, Nat.zero_add, List.mem_cons, List.not_mem_nil, or_false, forall_eq_or_imp, forall_eq, ne_eq, false_imp_iff, implies_true, and_true] at hF)) | (go_at_call 16; apply own_at hO; (repeat (first | (with_reducible exact hO) | (with_reducible apply Own.alloc) | (with_reducible apply Own.drew) | ((with_reducible apply Own.set_at); (focus (show _ ≤ _; omega))))); have hG := hF; clear hF; clear hO; intro hO; refine own_call hO (fun hB => HM.out _ hB) ?_; clear hO; intro w1 hO; (try simp only [World.size_alloc1, World.size_drew, Nat.reduceAdd] at hO); (try simp only [upd, updI, List.map_cons, List.map_nil, eq_self, if_true, if_false, reduceIte, Nat.add_eq_left, Nat.left_eq_add, Nat.reduceEqDiff, List.set_cons_zero, List.set_cons_succ, hG] at hO); clear hG; have hF := hO; (try simp only [Own, Item.Holds, apartI, CellsAt, Nat.reduceAdd, Nat.zero_add, List.mem_cons, List.not_mem_nil, or_false, forall_eq_or_imp, forall_eq, ne_eq, false_imp_iff, implies_true, and_true] at hF)))
  apply own_code hO
  (repeat (first | (with_reducible exact hO) | (with_reducible apply Own.alloc) | (with_reducible apply Own.drew) | ((with_reducible apply Own.set_at); (focus (show _ ≤ _; omega)))))
  have hG := hF; clear hF; clear hO; intro hO
  (try simp only [World.size_alloc1, World.size_drew, Nat.reduceAdd] at hO); (try simp only [upd, updI, List.map_cons, List.map_nil, eq_self, if_true, if_false, reduceIte, Nat.add_eq_left, Nat.left_eq_add, Nat.reduceEqDiff, List.set_cons_zero, List.set_cons_succ, hG] at hO); clear hG
  refine region_own (X := fun _ => True) [] (by kernel_rfl) (hO) (trivial) (by first | exact XStab.true | exact XStab.rd | exact XStab.rdIf) ?_
  clear hO
  refine Sim.takeP (i := 0) (d := some 16) (v := ?_) rfl rfl (by kernel_rfl) (by kernel_rfl) (by kernel_rfl) (fun _ _ _ h => h) (by first | exact XStab.true | exact XStab.rd | exact XStab.rdIf) ?_ ?_
  rotate_left
  · first | refine Or.inl ⟨by rfl, fun w => ?_⟩ | (refine Or.inr ⟨by rfl, ?_⟩; with_reducible rfl)
    first | done | (go_simp; all_goals with_reducible rfl)
  try simp only [Act.put, List.setIfInBounds_toArray, List.set_cons_zero, List.set_cons_succ]
  refine Sim.take (i := 1) (d := some 17) (v := ?_) rfl rfl (by kernel_rfl) (by kernel_rfl) (by kernel_rfl) (by kernel_rfl) (fun _ _ _ h => h) (by first | exact XStab.true | exact XStab.rd | exact XStab.rdIf) ?_ ?_
  rotate_left
  · first | refine Or.inl ⟨by rfl, fun w hO => ?_⟩ | (refine Or.inr ⟨by rfl, ?_⟩; with_reducible rfl)
    first | done | (have hF := hO; (try simp only [Own, Item.Holds, apartI, CellsAt, Nat.reduceAdd, Nat.zero_add, List.mem_cons, List.not_mem_nil, or_false, forall_eq_or_imp, forall_eq, ne_eq, false_imp_iff, implies_true, and_true] at hF); refine Out.same ?_; go_simp; all_goals with_reducible rfl)
  try simp only [Act.put, List.setIfInBounds_toArray, List.set_cons_zero, List.set_cons_succ]
  refine Sim.take (i := 2) (d := some 18) (v := ?_) rfl rfl (by kernel_rfl) (by kernel_rfl) (by kernel_rfl) (by kernel_rfl) (fun _ _ _ h => h) (by first | exact XStab.true | exact XStab.rd | exact XStab.rdIf) ?_ ?_
  rotate_left
  · first | refine Or.inl ⟨by rfl, fun w hO => ?_⟩ | (refine Or.inr ⟨by rfl, ?_⟩; with_reducible rfl)
    first | done | (refine Out.call (f := 34) (args := ?_) ?_ ?_; rotate_left; (focus (go_simp; all_goals with_reducible rfl)); exact HC.out _ hO.base)
  try simp only [Act.put, List.setIfInBounds_toArray, List.set_cons_zero, List.set_cons_succ]
  refine Sim.take (i := 3) (d := some 19) (v := ?_) rfl rfl (by kernel_rfl) (by kernel_rfl) (by kernel_rfl) (by kernel_rfl) (fun _ _ _ h => h) (by first | exact XStab.true | exact XStab.rd | exact XStab.rdIf) ?_ ?_
  rotate_left
  · first | refine Or.inl ⟨by rfl, fun w hO => ?_⟩ | (refine Or.inr ⟨by rfl, ?_⟩; with_reducible rfl)
    first | done | (have hF := hO; (try simp only [Own, Item.Holds, apartI, CellsAt, Nat.reduceAdd, Nat.zero_add, List.mem_cons, List.not_mem_nil, or_false, forall_eq_or_imp, forall_eq, ne_eq, false_imp_iff, implies_true, and_true] at hF); refine Out.same ?_; go_simp; all_goals with_reducible rfl)
  try simp only [Act.put, List.setIfInBounds_toArray, List.set_cons_zero, List.set_cons_succ]
  refine Sim.take (i := 4) (d := some 20) (v := ?_) rfl rfl (by kernel_rfl) (by kernel_rfl) (by kernel_rfl) (by kernel_rfl) (fun _ _ _ h => h) (by first | exact XStab.true | exact XStab.rd | exact XStab.rdIf) ?_ ?_
  rotate_left
  · first | refine Or.inl ⟨by rfl, fun w hO => ?_⟩ | (refine Or.inr ⟨by rfl, ?_⟩; with_reducible rfl)
    first | done | (refine Out.call (f := 20) (args := ?_) ?_ ?_; rotate_left; (focus (go_simp; all_goals with_reducible rfl)); exact HB.out _ hO.base)
  try simp only [Act.put, List.setIfInBounds_toArray, List.set_cons_zero, List.set_cons_succ]
  refine Sim.takeP (i := 5) (d := some 21) (v := ?_) rfl rfl (by kernel_rfl) (by kernel_rfl) (by kernel_rfl) (fun _ _ _ h => h) (by first | exact XStab.true | exact XStab.rd | exact XStab.rdIf) ?_ ?_
  rotate_left
  · first | refine Or.inl ⟨by rfl, fun w => ?_⟩ | (refine Or.inr ⟨by rfl, ?_⟩; with_reducible rfl)
    first | done | (go_simp; all_goals with_reducible rfl)
  try simp only [Act.put, List.setIfInBounds_toArray, List.set_cons_zero, List.set_cons_succ]
  refine Sim.takeP (i := 6) (d := some 22) (v := ?_) rfl rfl (by kernel_rfl) (by kernel_rfl) (by kernel_rfl) (fun _ _ _ h => h) (by first | exact XStab.true | exact XStab.rd | exact XStab.rdIf) ?_ ?_
  rotate_left
  · first | refine Or.inl ⟨by rfl, fun w => ?_⟩ | (refine Or.inr ⟨by rfl, ?_⟩; with_reducible rfl)
    first | done | (go_simp; all_goals with_reducible rfl)
  try simp only [Act.put, List.setIfInBounds_toArray, List.set_cons_zero, List.set_cons_succ]
  refine Sim.take (i := 7) (d := some 23) (v := ?_) rfl rfl (by kernel_rfl) (by kernel_rfl) (by kernel_rfl) (by kernel_rfl) (fun _ _ _ h => h) (by first | exact XStab.true | exact XStab.rd | exact XStab.rdIf) ?_ ?_
  rotate_left
  · first | refine Or.inl ⟨by rfl, fun w hO => ?_⟩ | (refine Or.inr ⟨by rfl, ?_⟩; with_reducible rfl)
    first | done | (refine Out.call (f := 32) (args := ?_) ?_ ?_; rotate_left; (focus (go_simp; all_goals with_reducible rfl)); exact HT.out _ hO.base)
  try simp only [Act.put, List.setIfInBounds_toArray, List.set_cons_zero, List.set_cons_succ]
  refine Sim.takeP (i := 8) (d := some 24) (v := ?_) rfl rfl (by kernel_rfl) (by kernel_rfl) (by kernel_rfl) (fun _ _ _ h => h) (by first | exact XStab.true | exact XStab.rd | exact XStab.rdIf) ?_ ?_
  rotate_left
  · first | refine Or.inl ⟨by rfl, fun w => ?_⟩ | (refine Or.inr ⟨by rfl, ?_⟩; with_reducible rfl)
    first | done | (go_simp; all_goals with_reducible rfl)
  try simp only [Act.put, List.setIfInBounds_toArray, List.set_cons_zero, List.set_cons_succ]
  refine Sim.takeP (i := 9) (d := some 6) (v := ?_) rfl rfl (by kernel_rfl) (by kernel_rfl) (by kernel_rfl) (fun _ _ _ h => h) (by first | exact XStab.true | exact XStab.rd | exact XStab.rdIf) ?_ ?_
  rotate_left
  · first | refine Or.inl ⟨by rfl, fun w => ?_⟩ | (refine Or.inr ⟨by rfl, ?_⟩; with_reducible rfl)
    first | done | (go_simp; all_goals with_reducible rfl)
  try simp only [Act.put, List.setIfInBounds_toArray, List.set_cons_zero, List.set_cons_succ]
  refine Sim.done (by kernel_rfl) (fun w1 hO hX => ?_) _
  (try simp only [World.size_alloc1, World.size_drew, Nat.reduceAdd] at hO); (try simp only [upd, updI, List.map_cons, List.map_nil, eq_self, if_true, if_false, reduceIte, Nat.add_eq_left, Nat.left_eq_add, Nat.reduceEqDiff, List.set_cons_zero, List.set_cons_succ] at hO)
  have hF := hO; (try simp only [Own, Item.Holds, apartI, CellsAt, Nat.reduceAdd, Nat.zero_add, List.mem_cons, List.not_mem_nil, or_false, forall_eq_or_imp, forall_eq, ne_eq, false_imp_iff, implies_true, and_true] at hF)
  by_cases h0 : l = 0
  · subst h0
    have HE3 := hid (show fiB v b u = true ∧ fiL v b u = v by
      have e : fiB v b u = true := by rw [HE.out]; rfl
      exact ⟨e, by rw [HE2.out, e]; rfl⟩)
    go_wp2_with (first | (at_make; refine wpList_make_room rfl _ _ 37 rfl 46 i0 (.agg #[.bool false, .int .i64 0, .int .i64 0, .int .i64 0, .int .i64 0, .bool false]) 6 48 Tryd.underlying37 hi0 hz0 hz1 hz2 .i64 .i64 _ _ n (n + 1) rfl rfl rfl (by omega) (by omega) (by omega) (by unfold maxLen; omega) hO ?_; clear hO hF; intro zs q3 w3 hzl hO; have hF := True.intro) | (refine wpList_copy_elems rfl _ _ 37 37 rfl 46 i0 6 Tryd.underlying37 hi0 hz1 rfl rfl hO (HA.out.below hO.base) (one6w v) ?_; clear hO hF; intro w4 hO; have hF := True.intro))
    go_ret2
    rw [HE3.out.1, HE3.out.2, HN.out]
    exact RowOutB.mk hO
  · have l0 : ¬ l = 0 := h0
    have l1 : 0 < l := by omega
    by_cases h7 : l ≤ 768
    · by_cases h6 : n = 60
      · have HE3 := hid (show fiB v b u = false ∧ fiL v b u = [] by
          have e : fiB v b u = false := by
            rw [HE.out]
            simp [h0, HN.out, h6]
          exact ⟨e, by rw [HE2.out, e]; rfl⟩)
        have n6 : (n : Int) = 60 := by omega
        have l7 : ¬ 768 < l := by omega
        go_wp2_with fail
        go_ret2
        rw [HE3.out.1, HE3.out.2]
        exact RowOutB.mk (hO.nilRow _ _)
      · have HE3 := hid (show fiB v b u = true ∧ fiL v b u = v ++ [⟨true, 0, 0, 0, l, false⟩] by
          have e : fiB v b u = true := by
            rw [HE.out]
            simp [h7, HN.out, h6]
          exact ⟨e, by rw [HE2.out, e, if_pos rfl, if_neg h0]⟩)
        have n6 : ¬ (n : Int) = 60 := by omega
        have l7 : ¬ 768 < l := by omega
        go_wp2_with (first | (at_make; refine wpList_make_room rfl _ _ 37 rfl 46 i0 (.agg #[.bool false, .int .i64 0, .int .i64 0, .int .i64 0, .int .i64 0, .bool false]) 6 48 Tryd.underlying37 hi0 hz0 hz1 hz2 .i64 .i64 _ _ n (n + 1) rfl rfl rfl (by omega) (by omega) (by omega) (by unfold maxLen; omega) hO ?_; clear hO hF; intro zs q3 w3 hzl hO; have hF := True.intro) | (refine wpList_copy_elems rfl _ _ 37 37 rfl 46 i0 6 Tryd.underlying37 hi0 hz1 rfl rfl hO (HA.out.below hO.base) (one6w v) ?_; clear hO hF; intro w4 hO; have hF := True.intro) | (at_builtin; apply own_list hO; (repeat (first | (with_reducible exact hO) | (with_reducible apply Own.alloc) | (with_reducible apply Own.drew) | ((with_reducible apply Own.set_at); (focus (show _ ≤ _; omega))))); have hG := hF; clear hF; clear hO; intro hO; (try simp only [World.size_alloc1, World.size_drew, Nat.reduceAdd] at hO); (try simp only [upd, updI, List.map_cons, List.map_nil, eq_self, if_true, if_false, reduceIte, Nat.add_eq_left, Nat.left_eq_add, Nat.reduceEqDiff, List.set_cons_zero, List.set_cons_succ, hG] at hO); clear hG; (try simp only [World.size_setCell] at hO); have hF := hO; (try simp only [Own, Item.Holds, apartI, CellsAt, Nat.reduceAdd, Nat.zero_add, List.mem_cons, List.not_mem_nil, or_false, forall_eq_or_imp, forall_eq, ne_eq, false_imp_iff, implies_true, and_true] at hF); refine wpList_append_item rfl _ _ 37 rfl 46 i0 (.agg #[.bool false, .int .i64 0, .int .i64 0, .int .i64 0, .int .i64 0, .bool false]) 6 48 Tryd.underlying37 hi0 hz0 hz1 hz2 rfl (by decide) rfl rfl hO rfl one6g (by unfold maxLen; omega) (by omega) ?_; clear hO hF; intro v'' w4 hO _; have hF := True.intro))
        go_ret2
        rw [HE3.out.1, HE3.out.2, List.length_append, HN.out, ← vcC_snoc]
        exact RowOutB.mk hO
    · have HE3 := hid (show fiB v b u = false ∧ fiL v b u = [] by
        have e : fiB v b u = false := by
          rw [HE.out]
          simp [h0, h7]
        exact ⟨e, by rw [HE2.out, e]; rfl⟩)
      have l7 : 768 < l := by omega
      go_wp2_with fail
      go_ret2
      rw [HE3.out.1, HE3.out.2]
      exact RowOutB.mk (hO.nilRow _ _)

set_option maxHeartbeats 4000000 in
theorem fiI_out (va : Value) (v : List Nt) (b u : Int) (n : Nat) (w : World) (hTB : TabB w) (hnl : v.length = n) (hn : n ≤ 1048576) (hs : SlAt w va n 6 (vcC v)) (hv : (voB v && meB b u) = false) :
    Calls Tryd.prog 37 #[va, .agg #[.int .i64 b, .int .i64 u]] w (RowOutB 46 6 0 [] false w) := by
  have hO := Own.start w
  have hF := True.intro
  cases hvo : voB v
  · have HV := hid (voI_is hnl hs hn hvo)
    clear hs hnl hv hvo hTB
    go_enter Tryd.func37, Tryd.ntmps37
    go_wp2_with (go_at_call 31; apply own_at hO; (repeat (first | (with_reducible exact hO) | (with_reducible apply Own.alloc) | (with_reducible apply Own.drew) | ((with_reducible apply Own.set_at); (focus (show _ ≤ _; omega))))); have hG := hF; clear hF; clear hO; intro hO; refine own_call hO (fun hB => HV.out _ hB) ?_; clear hO; intro w1 hO; (try simp only [World.size_alloc1, World.size_drew, Nat.reduceAdd] at hO); (try simp only [upd, updI, List.map_cons, List.map_nil, eq_self, if_true, if_false, reduceIte, Nat.add_eq_left, Nat.left_eq_add, Nat.reduceEqDiff, List.set_cons_zero, List.set_cons_succ, hG] at hO); clear hG; have hF := hO; (try simp only [Own, Item.Holds, apartI, CellsAt, Nat.reduceAdd, Nat.zero_add, List.mem_cons, List.not_mem_nil, or_false, forall_eq_or_imp, forall_eq, ne_eq, false_imp_iff, implies_true, and_true] at hF))
    go_ret2
    exact RowOutB.mk (hO.nilRow _ _)
  · have hm : meB b u = false := by rw [hvo] at hv; simpa using hv
    have HV := hid (voI_is hnl hs hn hvo)
    have HM := hid (meI_is hTB hm)
    clear hs hnl hv hm hvo hTB
    go_enter Tryd.func37, Tryd.ntmps37
    go_wp2_with (first | (go_at_call 31; apply own_at hO; (repeat (first | (with_reducible exact hO) | (with_reducible apply Own.alloc) | (with_reducible apply Own.drew) | ((with_reducible apply Own.set_at); (focus (show _ ≤ _; omega))))); have hG := hF; clear hF; clear hO; intro hO; refine own_call hO (fun hB => HV.out _ hB) ?_; clear hO; intro w1 hO; (try simp only [World.size_alloc1, World.size_drew, Nat.reduceAdd] at hO); (try simp only [upd, updI, List.map_cons, List.map_nil, eq_self, if_true, if_false, reduceIte, Nat.add_eq_left, Nat.left_eq_add, Nat.reduceEqDiff, List.set_cons_zero, List.set_cons_succ, hG] at hO); clear hG; have hF := hO; (try simp only [Own, Item.Holds, apartI, CellsAt, Nat.reduceAdd, Nat.zero_add, List.mem_cons, List.not_mem_nil, or_false, forall_eq_or_imp, forall_eq, ne_eq, false_imp_iff, implies_true, and_true] at hF)) | (go_at_call 16; apply own_at hO; (repeat (first | (with_reducible exact hO) | (with_reducible apply Own.alloc) | (with_reducible apply Own.drew) | ((with_reducible apply Own.set_at); (focus (show _ ≤ _; omega))))); have hG := hF; clear hF; clear hO; intro hO; refine own_call hO (fun hB => HM.out _ hB) ?_; clear hO; intro w1 hO; (try simp only [World.size_alloc1, World.size_drew, Nat.reduceAdd] at hO); (try simp only [upd, updI, List.map_cons, List.map_nil, eq_self, if_true, if_false, reduceIte, Nat.add_eq_left, Nat.left_eq_add, Nat.reduceEqDiff, List.set_cons_zero, List.set_cons_succ, hG] at hO); clear hG; have hF := hO; (try simp only [Own, Item.Holds, apartI, CellsAt, Nat.reduceAdd, Nat.zero_add, List.mem_cons, List.not_mem_nil, or_false, forall_eq_or_imp, forall_eq, ne_eq, false_imp_iff, implies_true, and_true] at hF)))
    go_ret2
    exact RowOutB.mk (hO.nilRow _ _)

theorem fiI_any (va : Value) (v : List Nt) (b u : Int) (w : World) (hTB : TabB w) (hs : SlAt w va v.length 6 (vcC v)) (hn : v.length ≤ 1048576) :
    Calls Tryd.prog 37 #[va, .agg #[.int .i64 b, .int .i64 u]] w (RowOutB 46 6 (fiL v b u).length (vcC (fiL v b u)) (fiB v b u) w) := by
  cases hv : voB v && meB b u
  · have hb : fiB v b u = false := by unfold fiB; rw [hv]; rfl
    have hl : fiL v b u = [] := by unfold fiL; rw [hb]; rfl
    rw [hb, hl]
    exact fiI_out va v b u _ w hTB rfl hn hs hv
  · rw [Bool.and_eq_true] at hv
    exact fiI_in va v b u _ w hTB rfl hs hv.1 hv.2
theorem fiI_C {w : World} (hT : TabB w) : CVm 37 fiL fiB w := fun va v b u W hW hs hn _ _ => fiI_any va v b u W (hT.below hW) hs hn
end Go.Proofs.YtcifmpjefhichaaDoor
