/- Chapter 12 in the model: faults of ways. -/
import Derived.Test.YtfdglkiehkilnaaDoorWalks12S
import Derived.Test.YtfdglkiehkilnaaDoorRegionD
namespace Go.Proofs.YtfdglkiehkilnaaDoor
set_option linter.unusedSimpArgs false
set_option linter.unusedVariables false
set_option maxRecDepth 8000
open Go.RowKit

/-- What the two keys of a voice, and of a pair, say. -/
theorem paP_iff {a b : List Pt} {x : Int} {i j : Nat} {p q r s : Int} (h1 : k4 a i = p) (h2 : k4 b i = q) (h3 : k4 a j = r) (h4 : k4 b j = s) : paP a b x i j ↔ 0 < (q - p) * (s - r) ∧ (r - p + 120) % 12 = x ∧ (s - q + 120) % 12 = x := by
  unfold paP; rw [h1, h2, h3, h4]
theorem pr_upto {a b : List Pt} {x : Int} (h : ∀ i, i < 4 → ∀ j, i < j → j < 4 → ¬ paP a b x i j) : ¬ prP a b x := fun ⟨i, j, h1, h2, hc⟩ => h i (by omega) j h1 h2 hc
def wantP (p : Nat) : Int := 7 - 7 * (p : Int)
theorem vo4_or {a b : List Pt} {k : Nat} (ha : a.length = 4) (hb : b.length = 4) (h : ∀ i, i < 4 → (∀ x, a[i]? = some x → pvP x = true) ∧ ∀ x, b[i]? = some x → pvP x = true) : vo4 a = true ∧ vo4 b = true :=
  ⟨vo4_iff.2 ⟨allP_of ha fun i z hi hz => (h i hi).1 z hz, ha⟩, vo4_iff.2 ⟨allP_of hb fun i z hi hz => (h i hi).2 z hz, hb⟩⟩

set_option maxRecDepth 20000 in
set_option maxHeartbeats 16000000 in
theorem mvS_in (va vb : Value) (a b : List Pt) (w : World) (hs : SlAt w va 4 3 (pcC a)) (ht : SlAt w vb 4 3 (pcC b)) (ha : a.length = 4) (hb : b.length = 4) :
    Calls Tryd.prog 71 #[va, vb] w fun e w' => e = .returned (.int .i64 (mvZ a b)) ∧ Below w.heap.size w w' := by
  have hO := Own.start w
  have hF := True.intro
  obtain ⟨A, c, rfl, na, hA⟩ := hs.open
  obtain ⟨A', c', rfl, nb, hB'⟩ := ht.open
  have HA := hid hs
  have HB := hid ht
  obtain ⟨b1, o1, rfl, _, _, l1⟩ := hA (by omega)
  obtain ⟨b2, o2, rfl, _, _, l2⟩ := hB' (by omega)
  have HN := hid (And.intro ha hb)
  clear hs ht hA hB' ha hb na nb
  go_enter Tryd.func71, Tryd.ntmps71
  go_wp2_with fail
  go_loopw [5] (fun t wr => ∃ k : Nat, k ≤ 4 ∧ t = .int .i64 k ∧ Hid (∀ i, i < k → (∀ x, a[i]? = some x → pvP x = true) ∧ ∀ x, b[i]? = some x → pvP x = true) ∧ Own w.heap.size (Below w.heap.size w) wr []) (fun t _ => 4 - (intOf t).toNat)
  case atStart => exact ⟨0, by omega, rfl, fun i h => by omega, hO⟩
  case round =>
    clear hO hF
    obtain ⟨k, hk, rfl, hv, hO⟩ := hrel
    have hF := hO; (try simp only [Own, Item.Holds, apartI, CellsAt, Nat.reduceAdd, Nat.zero_add, List.mem_cons, List.not_mem_nil, or_false, forall_eq_or_imp, forall_eq, ne_eq, false_imp_iff, implies_true, and_true] at hF)
    by_cases he : k = 4
    · subst he
      have HV := hid (vo4_or (k := 0) HN.out.1 HN.out.2 hv.out)
      clear hv hk
      go_wp2_with fail
      go_loopw [6] (fun t wr => ∃ p : Nat, p ≤ 2 ∧ t = .int .i64 p ∧ Hid ((1 ≤ p → ¬ prP a b 7) ∧ (2 ≤ p → ¬ prP a b 0)) ∧ Own w.heap.size (Below w.heap.size w) wr []) (fun t _ => 2 - (intOf t).toNat)
      case atStart => exact ⟨0, by omega, rfl, ⟨fun h => by omega, fun h => by omega⟩, hO⟩
      case round =>
        clear hO hF
        obtain ⟨p, hp, rfl, HP, hO⟩ := hrel
        have hF := hO; (try simp only [Own, Item.Holds, apartI, CellsAt, Nat.reduceAdd, Nat.zero_add, List.mem_cons, List.not_mem_nil, or_false, forall_eq_or_imp, forall_eq, ne_eq, false_imp_iff, implies_true, and_true] at hF)
        by_cases he : p = 2
        · subst he
          have H7 := hid (HP.out.1 (by omega))
          have H0 := hid (HP.out.2 (by omega))
          clear HP hp
          go_wp2_with fail
          go_loopw [14] (fun t wr => ∃ k : Nat, k ≤ 4 ∧ t = .int .i64 k ∧ Hid (∀ i, i < k → ¬ (12 < k4 b i - k4 a i ∨ 12 < k4 a i - k4 b i)) ∧ Own w.heap.size (Below w.heap.size w) wr []) (fun t _ => 4 - (intOf t).toNat)
          case atStart => exact ⟨0, by omega, rfl, fun i h => by omega, hO⟩
          case round =>
            clear hO hF
            obtain ⟨k, hk, rfl, hle, hO⟩ := hrel
            have hF := hO; (try simp only [Own, Item.Holds, apartI, CellsAt, Nat.reduceAdd, Nat.zero_add, List.mem_cons, List.not_mem_nil, or_false, forall_eq_or_imp, forall_eq, ne_eq, false_imp_iff, implies_true, and_true] at hF)
            by_cases he : k = 4
            · subst he
              have HE := hid (mv_none HV.out H7.out H0.out (fun ⟨i, hi, hc⟩ => hle.out i hi hc))
              go_wp2_with fail
              go_ret
              exact ⟨ret_int HE.out.symm, hO.base⟩
            · have hkl : k < 4 := by omega
              have hk2 : (k : Int) < 4 := by omega
              have hk0 : (0 : Int) ≤ (k : Int) := by omega
              obtain ⟨x, hx⟩ : ∃ x, a[k]? = some x := ⟨_, List.getElem?_eq_getElem (by have := HN.out.1; omega)⟩
              obtain ⟨y, hy⟩ : ∃ x, b[k]? = some x := ⟨_, List.getElem?_eq_getElem (by have := HN.out.2; omega)⟩
              have HX := hid (And.intro hx hy)
              obtain ⟨z1, hz1⟩ : ∃ z, k4 a k = z := ⟨_, rfl⟩
              obtain ⟨z2, hz2⟩ : ∃ z, k4 b k = z := ⟨_, rfl⟩
              have d1 := k4_bd HV.out.1 hkl
              have d2 := k4_bd HV.out.2 hkl
              rw [hz1] at d1
              rw [hz2] at d2
              have HK1 := hid (fun W => keyS12 (show kyP x = z1 by rw [← hz1, k4_at hx]) W)
              have HK2 := hid (fun W => keyS12 (show kyP y = z2 by rw [← hz2, k4_at hy]) W)
              have HZ := hid (And.intro hz1 hz2)
              obtain ⟨m, hm⟩ : ∃ m, z2 - z1 = m := ⟨_, rfl⟩
              have wz : IntKind.i64.wrap (z2 - z1) = m := by rw [hm]; exact IntWalk.i64_in _ (by omega)
              have wn : IntKind.i64.wrap (-m) = -m := IntWalk.i64_in _ (by omega)
              have HM := hid hm
              have mb : -200 ≤ m ∧ m ≤ 200 := by omega
              clear he hx hy hz1 hz2 hm d1 d2
              by_cases hc1 : 12 < m
              · have hc2 : ¬ 12 < -m := by omega
                have hc3 : ¬ m < -12 := by omega
                have HE := hid (mv_leap HV.out H7.out H0.out ⟨k, hkl, by rw [HZ.out.1, HZ.out.2]; have h2 := HM.out; omega⟩)
                go_wp2_with fail
                apply own_code hO
                (repeat (first | (with_reducible exact hO) | (with_reducible apply Own.alloc) | (with_reducible apply Own.drew) | ((with_reducible apply Own.set_at); (focus (show _ ≤ _; omega)))))
                have hG := hF; clear hF; clear hO; intro hO
                (try simp only [World.size_alloc1, World.size_drew, Nat.reduceAdd] at hO); (try simp only [upd, updI, List.map_cons, List.map_nil, eq_self, if_true, if_false, reduceIte, Nat.add_eq_left, Nat.left_eq_add, Nat.reduceEqDiff, List.set_cons_zero, List.set_cons_succ, hG] at hO); clear hG
                refine region_own (X := fun _ => True) [] (by kernel_rfl) (hO) (trivial) (by first | exact XStab.true | exact XStab.rd | exact XStab.rdIf) ?_
                clear hO
                refine Sim.sP (i := 0) (d := some 127) (h := ?_)
                refine Sim.sP (i := 1) (d := some 128) (h := ?_)
                refine Sim.sP (i := 2) (d := some 129) (h := ?_)
                refine Sim.sO (i := 3) (d := some 130) (v := ?_) (hy := ?_) (h := ?_)
                rotate_left
                · first | refine Or.inl ⟨by rfl, fun w hO => ?_⟩ | (refine Or.inr ⟨by rfl, ?_⟩; with_reducible rfl)
                  first | done | (have hF := hO; (try simp only [Own, Item.Holds, apartI, CellsAt, Nat.reduceAdd, Nat.zero_add, List.mem_cons, List.not_mem_nil, or_false, forall_eq_or_imp, forall_eq, ne_eq, false_imp_iff, implies_true, and_true] at hF); ((have ⟨d0, d1, d2⟩ := ptAt (HA.out.below hO.base) HX.out.1; have ⟨e0, e1, e2⟩ := ptAt (HB.out.below hO.base) HX.out.2)); refine Out.same ?_; go_simp; all_goals with_reducible rfl)
                refine Sim.sO (i := 4) (d := some 131) (v := ?_) (hy := ?_) (h := ?_)
                rotate_left
                · first | refine Or.inl ⟨by rfl, fun w hO => ?_⟩ | (refine Or.inr ⟨by rfl, ?_⟩; with_reducible rfl)
                  first | done | (refine Out.call (f := 96) (args := ?_) ?_ ?_; rotate_left; (focus (go_simp; all_goals with_reducible rfl)); exact HK2.out _)
                refine Sim.sP (i := 5) (d := some 132) (h := ?_)
                refine Sim.sP (i := 6) (d := some 133) (h := ?_)
                refine Sim.sP (i := 7) (d := some 134) (h := ?_)
                refine Sim.sO (i := 8) (d := some 135) (v := ?_) (hy := ?_) (h := ?_)
                rotate_left
                · first | refine Or.inl ⟨by rfl, fun w hO => ?_⟩ | (refine Or.inr ⟨by rfl, ?_⟩; with_reducible rfl)
                  first | done | (have hF := hO; (try simp only [Own, Item.Holds, apartI, CellsAt, Nat.reduceAdd, Nat.zero_add, List.mem_cons, List.not_mem_nil, or_false, forall_eq_or_imp, forall_eq, ne_eq, false_imp_iff, implies_true, and_true] at hF); ((have ⟨d0, d1, d2⟩ := ptAt (HA.out.below hO.base) HX.out.1; have ⟨e0, e1, e2⟩ := ptAt (HB.out.below hO.base) HX.out.2)); refine Out.same ?_; go_simp; all_goals with_reducible rfl)
                refine Sim.sO (i := 9) (d := some 136) (v := ?_) (hy := ?_) (h := ?_)
                rotate_left
                · first | refine Or.inl ⟨by rfl, fun w hO => ?_⟩ | (refine Or.inr ⟨by rfl, ?_⟩; with_reducible rfl)
                  first | done | (refine Out.call (f := 96) (args := ?_) ?_ ?_; rotate_left; (focus (go_simp; all_goals with_reducible rfl)); exact HK1.out _)
                refine Sim.sP (i := 10) (d := some 137) (h := ?_)
                refine Sim.sP (i := 11) (d := some 15) (h := ?_)
                refine Sim.done (by kernel_rfl) (fun w1 hO hX => ?_) _
                (try simp only [World.size_alloc1, World.size_drew, Nat.reduceAdd] at hO); (try simp only [upd, updI, List.map_cons, List.map_nil, eq_self, if_true, if_false, reduceIte, Nat.add_eq_left, Nat.left_eq_add, Nat.reduceEqDiff, List.set_cons_zero, List.set_cons_succ] at hO)
                have hF := hO; (try simp only [Own, Item.Holds, apartI, CellsAt, Nat.reduceAdd, Nat.zero_add, List.mem_cons, List.not_mem_nil, or_false, forall_eq_or_imp, forall_eq, ne_eq, false_imp_iff, implies_true, and_true] at hF)
                all_goals
                  go_wp2
                  all_goals
                    go_ret
                    exact ⟨ret_int HE.out.symm, Own.base (by first | exact hO | (repeat (first | (with_reducible exact hO) | (with_reducible apply Own.alloc) | (with_reducible apply Own.drew) | ((with_reducible apply Own.set_at); (focus (show _ ≤ _; omega))))))⟩
              · by_cases hc2 : 12 < -m
                · have hc3 : m < -12 := by omega
                  have HE := hid (mv_leap HV.out H7.out H0.out ⟨k, hkl, by rw [HZ.out.1, HZ.out.2]; have h2 := HM.out; omega⟩)
                  go_wp2_with fail
                  apply own_code hO
                  (repeat (first | (with_reducible exact hO) | (with_reducible apply Own.alloc) | (with_reducible apply Own.drew) | ((with_reducible apply Own.set_at); (focus (show _ ≤ _; omega)))))
                  have hG := hF; clear hF; clear hO; intro hO
                  (try simp only [World.size_alloc1, World.size_drew, Nat.reduceAdd] at hO); (try simp only [upd, updI, List.map_cons, List.map_nil, eq_self, if_true, if_false, reduceIte, Nat.add_eq_left, Nat.left_eq_add, Nat.reduceEqDiff, List.set_cons_zero, List.set_cons_succ, hG] at hO); clear hG
                  refine region_own (X := fun _ => True) [] (by kernel_rfl) (hO) (trivial) (by first | exact XStab.true | exact XStab.rd | exact XStab.rdIf) ?_
                  clear hO
                  refine Sim.sP (i := 0) (d := some 127) (h := ?_)
                  refine Sim.sP (i := 1) (d := some 128) (h := ?_)
                  refine Sim.sP (i := 2) (d := some 129) (h := ?_)
                  refine Sim.sO (i := 3) (d := some 130) (v := ?_) (hy := ?_) (h := ?_)
                  rotate_left
                  · first | refine Or.inl ⟨by rfl, fun w hO => ?_⟩ | (refine Or.inr ⟨by rfl, ?_⟩; with_reducible rfl)
                    first | done | (have hF := hO; (try simp only [Own, Item.Holds, apartI, CellsAt, Nat.reduceAdd, Nat.zero_add, List.mem_cons, List.not_mem_nil, or_false, forall_eq_or_imp, forall_eq, ne_eq, false_imp_iff, implies_true, and_true] at hF); ((have ⟨d0, d1, d2⟩ := ptAt (HA.out.below hO.base) HX.out.1; have ⟨e0, e1, e2⟩ := ptAt (HB.out.below hO.base) HX.out.2)); refine Out.same ?_; go_simp; all_goals with_reducible rfl)
                  refine Sim.sO (i := 4) (d := some 131) (v := ?_) (hy := ?_) (h := ?_)
                  rotate_left
                  · first | refine Or.inl ⟨by rfl, fun w hO => ?_⟩ | (refine Or.inr ⟨by rfl, ?_⟩; with_reducible rfl)
                    first | done | (refine Out.call (f := 96) (args := ?_) ?_ ?_; rotate_left; (focus (go_simp; all_goals with_reducible rfl)); exact HK2.out _)
                  refine Sim.sP (i := 5) (d := some 132) (h := ?_)
                  refine Sim.sP (i := 6) (d := some 133) (h := ?_)
                  refine Sim.sP (i := 7) (d := some 134) (h := ?_)
                  refine Sim.sO (i := 8) (d := some 135) (v := ?_) (hy := ?_) (h := ?_)
                  rotate_left
                  · first | refine Or.inl ⟨by rfl, fun w hO => ?_⟩ | (refine Or.inr ⟨by rfl, ?_⟩; with_reducible rfl)
                    first | done | (have hF := hO; (try simp only [Own, Item.Holds, apartI, CellsAt, Nat.reduceAdd, Nat.zero_add, List.mem_cons, List.not_mem_nil, or_false, forall_eq_or_imp, forall_eq, ne_eq, false_imp_iff, implies_true, and_true] at hF); ((have ⟨d0, d1, d2⟩ := ptAt (HA.out.below hO.base) HX.out.1; have ⟨e0, e1, e2⟩ := ptAt (HB.out.below hO.base) HX.out.2)); refine Out.same ?_; go_simp; all_goals with_reducible rfl)
                  refine Sim.sO (i := 9) (d := some 136) (v := ?_) (hy := ?_) (h := ?_)
                  rotate_left
                  · first | refine Or.inl ⟨by rfl, fun w hO => ?_⟩ | (refine Or.inr ⟨by rfl, ?_⟩; with_reducible rfl)
                    first | done | (refine Out.call (f := 96) (args := ?_) ?_ ?_; rotate_left; (focus (go_simp; all_goals with_reducible rfl)); exact HK1.out _)
                  refine Sim.sP (i := 10) (d := some 137) (h := ?_)
                  refine Sim.sP (i := 11) (d := some 15) (h := ?_)
                  refine Sim.done (by kernel_rfl) (fun w1 hO hX => ?_) _
                  (try simp only [World.size_alloc1, World.size_drew, Nat.reduceAdd] at hO); (try simp only [upd, updI, List.map_cons, List.map_nil, eq_self, if_true, if_false, reduceIte, Nat.add_eq_left, Nat.left_eq_add, Nat.reduceEqDiff, List.set_cons_zero, List.set_cons_succ] at hO)
                  have hF := hO; (try simp only [Own, Item.Holds, apartI, CellsAt, Nat.reduceAdd, Nat.zero_add, List.mem_cons, List.not_mem_nil, or_false, forall_eq_or_imp, forall_eq, ne_eq, false_imp_iff, implies_true, and_true] at hF)
                  all_goals
                    go_wp2
                    all_goals
                      go_ret
                      exact ⟨ret_int HE.out.symm, Own.base (by first | exact hO | (repeat (first | (with_reducible exact hO) | (with_reducible apply Own.alloc) | (with_reducible apply Own.drew) | ((with_reducible apply Own.set_at); (focus (show _ ≤ _; omega))))))⟩
                · have hc3 : ¬ m < -12 := by omega
                  have HU := hid (upto_P hle.out (show ¬ (12 < k4 b k - k4 a k ∨ 12 < k4 a k - k4 b k) by rw [HZ.out.1, HZ.out.2]; have h2 := HM.out; omega))
                  go_wp2_with fail
                  apply own_code hO
                  (repeat (first | (with_reducible exact hO) | (with_reducible apply Own.alloc) | (with_reducible apply Own.drew) | ((with_reducible apply Own.set_at); (focus (show _ ≤ _; omega)))))
                  have hG := hF; clear hF; clear hO; intro hO
                  (try simp only [World.size_alloc1, World.size_drew, Nat.reduceAdd] at hO); (try simp only [upd, updI, List.map_cons, List.map_nil, eq_self, if_true, if_false, reduceIte, Nat.add_eq_left, Nat.left_eq_add, Nat.reduceEqDiff, List.set_cons_zero, List.set_cons_succ, hG] at hO); clear hG
                  refine region_own (X := fun _ => True) [] (by kernel_rfl) (hO) (trivial) (by first | exact XStab.true | exact XStab.rd | exact XStab.rdIf) ?_
                  clear hO
                  refine Sim.sP (i := 0) (d := some 127) (h := ?_)
                  refine Sim.sP (i := 1) (d := some 128) (h := ?_)
                  refine Sim.sP (i := 2) (d := some 129) (h := ?_)
                  refine Sim.sO (i := 3) (d := some 130) (v := ?_) (hy := ?_) (h := ?_)
                  rotate_left
                  · first | refine Or.inl ⟨by rfl, fun w hO => ?_⟩ | (refine Or.inr ⟨by rfl, ?_⟩; with_reducible rfl)
                    first | done | (have hF := hO; (try simp only [Own, Item.Holds, apartI, CellsAt, Nat.reduceAdd, Nat.zero_add, List.mem_cons, List.not_mem_nil, or_false, forall_eq_or_imp, forall_eq, ne_eq, false_imp_iff, implies_true, and_true] at hF); ((have ⟨d0, d1, d2⟩ := ptAt (HA.out.below hO.base) HX.out.1; have ⟨e0, e1, e2⟩ := ptAt (HB.out.below hO.base) HX.out.2)); refine Out.same ?_; go_simp; all_goals with_reducible rfl)
                  refine Sim.sO (i := 4) (d := some 131) (v := ?_) (hy := ?_) (h := ?_)
                  rotate_left
                  · first | refine Or.inl ⟨by rfl, fun w hO => ?_⟩ | (refine Or.inr ⟨by rfl, ?_⟩; with_reducible rfl)
                    first | done | (refine Out.call (f := 96) (args := ?_) ?_ ?_; rotate_left; (focus (go_simp; all_goals with_reducible rfl)); exact HK2.out _)
                  refine Sim.sP (i := 5) (d := some 132) (h := ?_)
                  refine Sim.sP (i := 6) (d := some 133) (h := ?_)
                  refine Sim.sP (i := 7) (d := some 134) (h := ?_)
                  refine Sim.sO (i := 8) (d := some 135) (v := ?_) (hy := ?_) (h := ?_)
                  rotate_left
                  · first | refine Or.inl ⟨by rfl, fun w hO => ?_⟩ | (refine Or.inr ⟨by rfl, ?_⟩; with_reducible rfl)
                    first | done | (have hF := hO; (try simp only [Own, Item.Holds, apartI, CellsAt, Nat.reduceAdd, Nat.zero_add, List.mem_cons, List.not_mem_nil, or_false, forall_eq_or_imp, forall_eq, ne_eq, false_imp_iff, implies_true, and_true] at hF); ((have ⟨d0, d1, d2⟩ := ptAt (HA.out.below hO.base) HX.out.1; have ⟨e0, e1, e2⟩ := ptAt (HB.out.below hO.base) HX.out.2)); refine Out.same ?_; go_simp; all_goals with_reducible rfl)
                  refine Sim.sO (i := 9) (d := some 136) (v := ?_) (hy := ?_) (h := ?_)
                  rotate_left
                  · first | refine Or.inl ⟨by rfl, fun w hO => ?_⟩ | (refine Or.inr ⟨by rfl, ?_⟩; with_reducible rfl)
                    first | done | (refine Out.call (f := 96) (args := ?_) ?_ ?_; rotate_left; (focus (go_simp; all_goals with_reducible rfl)); exact HK1.out _)
                  refine Sim.sP (i := 10) (d := some 137) (h := ?_)
                  refine Sim.sP (i := 11) (d := some 15) (h := ?_)
                  refine Sim.done (by kernel_rfl) (fun w1 hO hX => ?_) _
                  (try simp only [World.size_alloc1, World.size_drew, Nat.reduceAdd] at hO); (try simp only [upd, updI, List.map_cons, List.map_nil, eq_self, if_true, if_false, reduceIte, Nat.add_eq_left, Nat.left_eq_add, Nat.reduceEqDiff, List.set_cons_zero, List.set_cons_succ] at hO)
                  have hF := hO; (try simp only [Own, Item.Holds, apartI, CellsAt, Nat.reduceAdd, Nat.zero_add, List.mem_cons, List.not_mem_nil, or_false, forall_eq_or_imp, forall_eq, ne_eq, false_imp_iff, implies_true, and_true] at hF)
                  all_goals
                    go_wp2
                    all_goals
                      go_roundw
                      case rel => first | exact ⟨k + 1, by omega, by go_num, HU.out, hO⟩ | exact ⟨k + 1, by omega, by go_num, fun i hi => by have := HU.out i hi; omega⟩
                      case measure => simp [intOf]; omega
        · have hpl : p < 2 := by omega
          have hp2 : (p : Int) < 2 := by omega
          have hp0 : (0 : Int) ≤ (p : Int) := by omega
          obtain ⟨wt, hwt⟩ : ∃ x, wantP p = x := ⟨_, rfl⟩
          have HW := hid hwt
          have w7 : IntKind.i64.wrap (7 - 7 * (p : Int)) = wt := by rw [← hwt]; exact IntWalk.i64_in _ (by omega)
          have w7' : IntKind.i64.wrap (7 * (p : Int)) = 7 * (p : Int) := IntWalk.i64_in _ (by omega)
          clear he hwt
          go_wp2_with fail
          go_loopw [8] (fun t wr => ∃ i : Nat, i ≤ 4 ∧ t = .int .i64 i ∧ Hid (∀ i', i' < i → ∀ j, i' < j → j < 4 → ¬ paP a b wt i' j) ∧ Own w.heap.size (Below w.heap.size w) wr []) (fun t _ => 4 - (intOf t).toNat)
          case atStart => exact ⟨0, by omega, rfl, fun i h => by omega, hO⟩
          case round =>
            clear hO hF
            obtain ⟨i, hi, rfl, hpi, hO⟩ := hrel
            have hF := hO; (try simp only [Own, Item.Holds, apartI, CellsAt, Nat.reduceAdd, Nat.zero_add, List.mem_cons, List.not_mem_nil, or_false, forall_eq_or_imp, forall_eq, ne_eq, false_imp_iff, implies_true, and_true] at hF)
            by_cases he : i = 4
            · subst he
              have HX := hid (show (1 ≤ p + 1 → ¬ prP a b 7) ∧ (2 ≤ p + 1 → ¬ prP a b 0) by
                have hn : ¬ prP a b wt := pr_upto hpi.out
                rw [← HW.out] at hn
                rcases (show p = 0 ∨ p = 1 by omega) with rfl | rfl
                · exact ⟨fun _ => hn, fun h => by omega⟩
                · exact ⟨fun _ => HP.out.1 (by omega), fun _ => hn⟩)
              go_wp2_with fail
              go_roundw
              case rel => exact ⟨p + 1, by omega, by go_num, HX.out, hO⟩
              case measure => simp [intOf]; omega
            · have hil : i < 4 := by omega
              have hi2 : (i : Int) < 4 := by omega
              have hi0 : (0 : Int) ≤ (i : Int) := by omega
              have wi : IntKind.i64.wrap ((i : Int) + 1) = (i : Int) + 1 := IntWalk.i64_in _ (by omega)
              obtain ⟨xa, hxa⟩ : ∃ x, a[i]? = some x := ⟨_, List.getElem?_eq_getElem (by have := HN.out.1; omega)⟩
              obtain ⟨xb, hxb⟩ : ∃ x, b[i]? = some x := ⟨_, List.getElem?_eq_getElem (by have := HN.out.2; omega)⟩
              have HXI := hid (And.intro hxa hxb)
              obtain ⟨pk, hpk⟩ : ∃ z, k4 a i = z := ⟨_, rfl⟩
              obtain ⟨qk, hqk⟩ : ∃ z, k4 b i = z := ⟨_, rfl⟩
              have bp := k4_bd HV.out.1 hil
              have bq := k4_bd HV.out.2 hil
              rw [hpk] at bp
              rw [hqk] at bq
              have HKP := hid (fun W => keyS12 (show kyP xa = pk by rw [← hpk, k4_at hxa]) W)
              have HKQ := hid (fun W => keyS12 (show kyP xb = qk by rw [← hqk, k4_at hxb]) W)
              have HPQ := hid (And.intro hpk hqk)
              obtain ⟨x, hx⟩ : ∃ z, qk - pk = z := ⟨_, rfl⟩
              have wx : IntKind.i64.wrap (qk - pk) = x := by rw [hx]; exact IntWalk.i64_in _ (by omega)
              have bx : -200 ≤ x ∧ x ≤ 200 := by omega
              have HXX := hid hx
              clear he hxa hxb hpk hqk hx
              go_wp2_with fail
              go_loopw [9] (fun t wr => ∃ j : Nat, i + 1 ≤ j ∧ j ≤ 4 ∧ t = .int .i64 j ∧ Hid (∀ j', i < j' → j' < j → ¬ paP a b wt i j') ∧ Own w.heap.size (Below w.heap.size w) wr []) (fun t _ => 4 - (intOf t).toNat)
              case atStart => exact ⟨i + 1, by omega, by omega, by push_cast; rfl, fun j h1 h2 => by omega, hO⟩
              case round =>
                clear hO hF
                obtain ⟨j, hj1, hj, rfl, hpj, hO⟩ := hrel
                have hF := hO; (try simp only [Own, Item.Holds, apartI, CellsAt, Nat.reduceAdd, Nat.zero_add, List.mem_cons, List.not_mem_nil, or_false, forall_eq_or_imp, forall_eq, ne_eq, false_imp_iff, implies_true, and_true] at hF)
                by_cases he : j = 4
                · subst he
                  have HU := hid (show ∀ i', i' < i + 1 → ∀ j, i' < j → j < 4 → ¬ paP a b wt i' j from fun i' h1 j h2 h3 => by
                    rcases (show i' < i ∨ i' = i by omega) with h | rfl
                    · exact hpi.out i' h j h2 h3
                    · exact hpj.out j h2 h3)
                  go_wp2_with fail
                  go_roundw
                  case rel => exact ⟨i + 1, by omega, by go_num, HU.out, hO⟩
                  case measure => simp [intOf]; omega
                · have hjl : j < 4 := by omega
                  have hj2 : (j : Int) < 4 := by omega
                  have hj0 : (0 : Int) ≤ (j : Int) := by omega
                  have wj : IntKind.i64.wrap ((j : Int) + 1) = (j : Int) + 1 := IntWalk.i64_in _ (by omega)
                  obtain ⟨ya, hya⟩ : ∃ x, a[j]? = some x := ⟨_, List.getElem?_eq_getElem (by have := HN.out.1; omega)⟩
                  obtain ⟨yb, hyb⟩ : ∃ x, b[j]? = some x := ⟨_, List.getElem?_eq_getElem (by have := HN.out.2; omega)⟩
                  have HXJ := hid (And.intro hya hyb)
                  obtain ⟨rk, hrk⟩ : ∃ z, k4 a j = z := ⟨_, rfl⟩
                  obtain ⟨sk, hsk⟩ : ∃ z, k4 b j = z := ⟨_, rfl⟩
                  have br := k4_bd HV.out.1 hjl
                  have bs := k4_bd HV.out.2 hjl
                  rw [hrk] at br
                  rw [hsk] at bs
                  have HKR := hid (fun W => keyS12 (show kyP ya = rk by rw [← hrk, k4_at hya]) W)
                  have HKS := hid (fun W => keyS12 (show kyP yb = sk by rw [← hsk, k4_at hyb]) W)
                  obtain ⟨y, hy⟩ : ∃ z, sk - rk = z := ⟨_, rfl⟩
                  have wy : IntKind.i64.wrap (sk - rk) = y := by rw [hy]; exact IntWalk.i64_in _ (by omega)
                  have by' : -200 ≤ y ∧ y ≤ 200 := by omega
                  have mb := mul_bd bx.1 bx.2 by'.1 by'.2
                  obtain ⟨X, hX⟩ : ∃ z, x * y = z := ⟨_, rfl⟩
                  rw [hX] at mb
                  have wX : IntKind.i64.wrap (x * y) = X := by rw [hX]; exact IntWalk.i64_in _ (by omega)
                  have we : IntKind.i64.wrap (rk - pk) = rk - pk := IntWalk.i64_in _ (by omega)
                  have wf : IntKind.i64.wrap (sk - qk) = sk - qk := IntWalk.i64_in _ (by omega)
                  obtain ⟨E, hE⟩ : ∃ z, rk - pk + 120 = z := ⟨_, rfl⟩
                  obtain ⟨F, hF'⟩ : ∃ z, sk - qk + 120 = z := ⟨_, rfl⟩
                  have we2 : IntKind.i64.wrap (rk - pk + 120) = E := by rw [hE]; exact IntWalk.i64_in _ (by omega)
                  have wf2 : IntKind.i64.wrap (sk - qk + 120) = F := by rw [hF']; exact IntWalk.i64_in _ (by omega)
                  have te : E.tmod 12 = E % 12 := Int.tmod_eq_emod_of_nonneg (by omega)
                  have tf : F.tmod 12 = F % 12 := Int.tmod_eq_emod_of_nonneg (by omega)
                  obtain ⟨E2, hE2⟩ : ∃ z, E % 12 = z := ⟨_, rfl⟩
                  obtain ⟨F2, hF2⟩ : ∃ z, F % 12 = z := ⟨_, rfl⟩
                  rw [hE2] at te
                  rw [hF2] at tf
                  have HPA := hid (show paP a b wt i j ↔ (0 < X ∧ E2 = wt ∧ F2 = wt) by
                    rw [paP_iff HPQ.out.1 HPQ.out.2 hrk hsk, hE, hF', HXX.out, hy, hX, hE2, hF2])
                  have HT := hid (And.intro te tf)
                  clear hE2 hF2 te tf
                  clear he hya hyb hrk hsk hy hX hE hF' br bs by'
                  go_wp2_with fail
                  apply own_code hO
                  (repeat (first | (with_reducible exact hO) | (with_reducible apply Own.alloc) | (with_reducible apply Own.drew) | ((with_reducible apply Own.set_at); (focus (show _ ≤ _; omega)))))
                  have hG := hF; clear hF; clear hO; intro hO
                  (try simp only [World.size_alloc1, World.size_drew, Nat.reduceAdd] at hO); (try simp only [upd, updI, List.map_cons, List.map_nil, eq_self, if_true, if_false, reduceIte, Nat.add_eq_left, Nat.left_eq_add, Nat.reduceEqDiff, List.set_cons_zero, List.set_cons_succ, hG] at hO); clear hG
                  refine region_own (X := fun _ => True) [] (by kernel_rfl) (hO) (trivial) (by first | exact XStab.true | exact XStab.rd | exact XStab.rdIf) ?_
                  clear hO
                  refine Sim.sP (i := 0) (d := some 59) (h := ?_)
                  refine Sim.sP (i := 1) (d := some 60) (h := ?_)
                  refine Sim.sP (i := 2) (d := some 61) (h := ?_)
                  refine Sim.sO (i := 3) (d := some 62) (v := ?_) (hy := ?_) (h := ?_)
                  rotate_left
                  · first | refine Or.inl ⟨by rfl, fun w hO => ?_⟩ | (refine Or.inr ⟨by rfl, ?_⟩; with_reducible rfl)
                    first | done | (have hF := hO; (try simp only [Own, Item.Holds, apartI, CellsAt, Nat.reduceAdd, Nat.zero_add, List.mem_cons, List.not_mem_nil, or_false, forall_eq_or_imp, forall_eq, ne_eq, false_imp_iff, implies_true, and_true] at hF); ((have ⟨d0, d1, d2⟩ := ptAt (HA.out.below hO.base) HXI.out.1; have ⟨e0, e1, e2⟩ := ptAt (HB.out.below hO.base) HXI.out.2)); refine Out.same ?_; go_simp; all_goals with_reducible rfl)
                  refine Sim.sO (i := 4) (d := some 63) (v := ?_) (hy := ?_) (h := ?_)
                  rotate_left
                  · first | refine Or.inl ⟨by rfl, fun w hO => ?_⟩ | (refine Or.inr ⟨by rfl, ?_⟩; with_reducible rfl)
                    first | done | (refine Out.call (f := 96) (args := ?_) ?_ ?_; rotate_left; (focus (go_simp; all_goals with_reducible rfl)); exact HKQ.out _)
                  refine Sim.sP (i := 5) (d := some 64) (h := ?_)
                  refine Sim.sP (i := 6) (d := some 65) (h := ?_)
                  refine Sim.sP (i := 7) (d := some 66) (h := ?_)
                  refine Sim.sO (i := 8) (d := some 67) (v := ?_) (hy := ?_) (h := ?_)
                  rotate_left
                  · first | refine Or.inl ⟨by rfl, fun w hO => ?_⟩ | (refine Or.inr ⟨by rfl, ?_⟩; with_reducible rfl)
                    first | done | (have hF := hO; (try simp only [Own, Item.Holds, apartI, CellsAt, Nat.reduceAdd, Nat.zero_add, List.mem_cons, List.not_mem_nil, or_false, forall_eq_or_imp, forall_eq, ne_eq, false_imp_iff, implies_true, and_true] at hF); ((have ⟨d0, d1, d2⟩ := ptAt (HA.out.below hO.base) HXI.out.1; have ⟨e0, e1, e2⟩ := ptAt (HB.out.below hO.base) HXI.out.2)); refine Out.same ?_; go_simp; all_goals with_reducible rfl)
                  refine Sim.sO (i := 9) (d := some 68) (v := ?_) (hy := ?_) (h := ?_)
                  rotate_left
                  · first | refine Or.inl ⟨by rfl, fun w hO => ?_⟩ | (refine Or.inr ⟨by rfl, ?_⟩; with_reducible rfl)
                    first | done | (refine Out.call (f := 96) (args := ?_) ?_ ?_; rotate_left; (focus (go_simp; all_goals with_reducible rfl)); exact HKP.out _)
                  refine Sim.sP (i := 10) (d := some 69) (h := ?_)
                  refine Sim.sP (i := 11) (d := some 10) (h := ?_)
                  refine Sim.done (by kernel_rfl) (fun w1 hO hX => ?_) _
                  (try simp only [World.size_alloc1, World.size_drew, Nat.reduceAdd] at hO); (try simp only [upd, updI, List.map_cons, List.map_nil, eq_self, if_true, if_false, reduceIte, Nat.add_eq_left, Nat.left_eq_add, Nat.reduceEqDiff, List.set_cons_zero, List.set_cons_succ] at hO)
                  have hF := hO; (try simp only [Own, Item.Holds, apartI, CellsAt, Nat.reduceAdd, Nat.zero_add, List.mem_cons, List.not_mem_nil, or_false, forall_eq_or_imp, forall_eq, ne_eq, false_imp_iff, implies_true, and_true] at hF)
                  go_wp2_with fail
                  apply own_code hO
                  (repeat (first | (with_reducible exact hO) | (with_reducible apply Own.alloc) | (with_reducible apply Own.drew) | ((with_reducible apply Own.set_at); (focus (show _ ≤ _; omega)))))
                  have hG := hF; clear hF; clear hO; intro hO
                  (try simp only [World.size_alloc1, World.size_drew, Nat.reduceAdd] at hO); (try simp only [upd, updI, List.map_cons, List.map_nil, eq_self, if_true, if_false, reduceIte, Nat.add_eq_left, Nat.left_eq_add, Nat.reduceEqDiff, List.set_cons_zero, List.set_cons_succ, hG] at hO); clear hG
                  refine region_own (X := fun _ => True) [] (by kernel_rfl) (hO) (trivial) (by first | exact XStab.true | exact XStab.rd | exact XStab.rdIf) ?_
                  clear hO
                  refine Sim.sP (i := 0) (d := some 70) (h := ?_)
                  refine Sim.sP (i := 1) (d := some 71) (h := ?_)
                  refine Sim.sP (i := 2) (d := some 72) (h := ?_)
                  refine Sim.sO (i := 3) (d := some 73) (v := ?_) (hy := ?_) (h := ?_)
                  rotate_left
                  · first | refine Or.inl ⟨by rfl, fun w hO => ?_⟩ | (refine Or.inr ⟨by rfl, ?_⟩; with_reducible rfl)
                    first | done | (have hF := hO; (try simp only [Own, Item.Holds, apartI, CellsAt, Nat.reduceAdd, Nat.zero_add, List.mem_cons, List.not_mem_nil, or_false, forall_eq_or_imp, forall_eq, ne_eq, false_imp_iff, implies_true, and_true] at hF); ((have ⟨d0, d1, d2⟩ := ptAt (HA.out.below hO.base) HXJ.out.1; have ⟨e0, e1, e2⟩ := ptAt (HB.out.below hO.base) HXJ.out.2)); refine Out.same ?_; go_simp; all_goals with_reducible rfl)
                  refine Sim.sO (i := 4) (d := some 74) (v := ?_) (hy := ?_) (h := ?_)
                  rotate_left
                  · first | refine Or.inl ⟨by rfl, fun w hO => ?_⟩ | (refine Or.inr ⟨by rfl, ?_⟩; with_reducible rfl)
                    first | done | (refine Out.call (f := 96) (args := ?_) ?_ ?_; rotate_left; (focus (go_simp; all_goals with_reducible rfl)); exact HKS.out _)
                  refine Sim.sP (i := 5) (d := some 75) (h := ?_)
                  refine Sim.sP (i := 6) (d := some 76) (h := ?_)
                  refine Sim.sP (i := 7) (d := some 77) (h := ?_)
                  refine Sim.sO (i := 8) (d := some 78) (v := ?_) (hy := ?_) (h := ?_)
                  rotate_left
                  · first | refine Or.inl ⟨by rfl, fun w hO => ?_⟩ | (refine Or.inr ⟨by rfl, ?_⟩; with_reducible rfl)
                    first | done | (have hF := hO; (try simp only [Own, Item.Holds, apartI, CellsAt, Nat.reduceAdd, Nat.zero_add, List.mem_cons, List.not_mem_nil, or_false, forall_eq_or_imp, forall_eq, ne_eq, false_imp_iff, implies_true, and_true] at hF); ((have ⟨d0, d1, d2⟩ := ptAt (HA.out.below hO.base) HXJ.out.1; have ⟨e0, e1, e2⟩ := ptAt (HB.out.below hO.base) HXJ.out.2)); refine Out.same ?_; go_simp; all_goals with_reducible rfl)
                  refine Sim.sO (i := 9) (d := some 79) (v := ?_) (hy := ?_) (h := ?_)
                  rotate_left
                  · first | refine Or.inl ⟨by rfl, fun w hO => ?_⟩ | (refine Or.inr ⟨by rfl, ?_⟩; with_reducible rfl)
                    first | done | (refine Out.call (f := 96) (args := ?_) ?_ ?_; rotate_left; (focus (go_simp; all_goals with_reducible rfl)); exact HKR.out _)
                  refine Sim.sP (i := 10) (d := some 80) (h := ?_)
                  refine Sim.sP (i := 11) (d := some 11) (h := ?_)
                  refine Sim.done (by kernel_rfl) (fun w1 hO hX => ?_) _
                  (try simp only [World.size_alloc1, World.size_drew, Nat.reduceAdd] at hO); (try simp only [upd, updI, List.map_cons, List.map_nil, eq_self, if_true, if_false, reduceIte, Nat.add_eq_left, Nat.left_eq_add, Nat.reduceEqDiff, List.set_cons_zero, List.set_cons_succ] at hO)
                  have hF := hO; (try simp only [Own, Item.Holds, apartI, CellsAt, Nat.reduceAdd, Nat.zero_add, List.mem_cons, List.not_mem_nil, or_false, forall_eq_or_imp, forall_eq, ne_eq, false_imp_iff, implies_true, and_true] at hF)
                  go_wp2_with fail
                  apply own_code hO
                  (repeat (first | (with_reducible exact hO) | (with_reducible apply Own.alloc) | (with_reducible apply Own.drew) | ((with_reducible apply Own.set_at); (focus (show _ ≤ _; omega)))))
                  have hG := hF; clear hF; clear hO; intro hO
                  (try simp only [World.size_alloc1, World.size_drew, Nat.reduceAdd] at hO); (try simp only [upd, updI, List.map_cons, List.map_nil, eq_self, if_true, if_false, reduceIte, Nat.add_eq_left, Nat.left_eq_add, Nat.reduceEqDiff, List.set_cons_zero, List.set_cons_succ, hG] at hO); clear hG
                  refine region_own (X := fun _ => True) [] (by kernel_rfl) (hO) (trivial) (by first | exact XStab.true | exact XStab.rd | exact XStab.rdIf) ?_
                  clear hO
                  refine Sim.sP (i := 0) (d := some 81) (h := ?_)
                  refine Sim.sP (i := 1) (d := some 82) (h := ?_)
                  refine Sim.sP (i := 2) (d := some 83) (h := ?_)
                  refine Sim.sO (i := 3) (d := some 84) (v := ?_) (hy := ?_) (h := ?_)
                  rotate_left
                  · first | refine Or.inl ⟨by rfl, fun w hO => ?_⟩ | (refine Or.inr ⟨by rfl, ?_⟩; with_reducible rfl)
                    first | done | (have hF := hO; (try simp only [Own, Item.Holds, apartI, CellsAt, Nat.reduceAdd, Nat.zero_add, List.mem_cons, List.not_mem_nil, or_false, forall_eq_or_imp, forall_eq, ne_eq, false_imp_iff, implies_true, and_true] at hF); ((have ⟨d0, d1, d2⟩ := ptAt (HA.out.below hO.base) HXI.out.1; have ⟨e0, e1, e2⟩ := ptAt (HA.out.below hO.base) HXJ.out.1)); refine Out.same ?_; go_simp; all_goals with_reducible rfl)
                  refine Sim.sO (i := 4) (d := some 85) (v := ?_) (hy := ?_) (h := ?_)
                  rotate_left
                  · first | refine Or.inl ⟨by rfl, fun w hO => ?_⟩ | (refine Or.inr ⟨by rfl, ?_⟩; with_reducible rfl)
                    first | done | (refine Out.call (f := 96) (args := ?_) ?_ ?_; rotate_left; (focus (go_simp; all_goals with_reducible rfl)); exact HKR.out _)
                  refine Sim.sP (i := 5) (d := some 86) (h := ?_)
                  refine Sim.sP (i := 6) (d := some 87) (h := ?_)
                  refine Sim.sP (i := 7) (d := some 88) (h := ?_)
                  refine Sim.sO (i := 8) (d := some 89) (v := ?_) (hy := ?_) (h := ?_)
                  rotate_left
                  · first | refine Or.inl ⟨by rfl, fun w hO => ?_⟩ | (refine Or.inr ⟨by rfl, ?_⟩; with_reducible rfl)
                    first | done | (have hF := hO; (try simp only [Own, Item.Holds, apartI, CellsAt, Nat.reduceAdd, Nat.zero_add, List.mem_cons, List.not_mem_nil, or_false, forall_eq_or_imp, forall_eq, ne_eq, false_imp_iff, implies_true, and_true] at hF); ((have ⟨d0, d1, d2⟩ := ptAt (HA.out.below hO.base) HXI.out.1; have ⟨e0, e1, e2⟩ := ptAt (HA.out.below hO.base) HXJ.out.1)); refine Out.same ?_; go_simp; all_goals with_reducible rfl)
                  refine Sim.sO (i := 9) (d := some 90) (v := ?_) (hy := ?_) (h := ?_)
                  rotate_left
                  · first | refine Or.inl ⟨by rfl, fun w hO => ?_⟩ | (refine Or.inr ⟨by rfl, ?_⟩; with_reducible rfl)
                    first | done | (refine Out.call (f := 96) (args := ?_) ?_ ?_; rotate_left; (focus (go_simp; all_goals with_reducible rfl)); exact HKP.out _)
                  refine Sim.sP (i := 10) (d := some 91) (h := ?_)
                  refine Sim.sP (i := 11) (d := some 92) (h := ?_)
                  refine Sim.sP (i := 12) (d := some 12) (h := ?_)
                  refine Sim.done (by kernel_rfl) (fun w1 hO hX => ?_) _
                  (try simp only [World.size_alloc1, World.size_drew, Nat.reduceAdd] at hO); (try simp only [upd, updI, List.map_cons, List.map_nil, eq_self, if_true, if_false, reduceIte, Nat.add_eq_left, Nat.left_eq_add, Nat.reduceEqDiff, List.set_cons_zero, List.set_cons_succ] at hO)
                  have hF := hO; (try simp only [Own, Item.Holds, apartI, CellsAt, Nat.reduceAdd, Nat.zero_add, List.mem_cons, List.not_mem_nil, or_false, forall_eq_or_imp, forall_eq, ne_eq, false_imp_iff, implies_true, and_true] at hF)
                  go_wp2_with fail
                  apply own_code hO
                  (repeat (first | (with_reducible exact hO) | (with_reducible apply Own.alloc) | (with_reducible apply Own.drew) | ((with_reducible apply Own.set_at); (focus (show _ ≤ _; omega)))))
                  have hG := hF; clear hF; clear hO; intro hO
                  (try simp only [World.size_alloc1, World.size_drew, Nat.reduceAdd] at hO); (try simp only [upd, updI, List.map_cons, List.map_nil, eq_self, if_true, if_false, reduceIte, Nat.add_eq_left, Nat.left_eq_add, Nat.reduceEqDiff, List.set_cons_zero, List.set_cons_succ, hG] at hO); clear hG
                  refine region_own (X := fun _ => True) [] (by kernel_rfl) (hO) (trivial) (by first | exact XStab.true | exact XStab.rd | exact XStab.rdIf) ?_
                  clear hO
                  refine Sim.sP (i := 0) (d := some 93) (h := ?_)
                  refine Sim.sP (i := 1) (d := some 94) (h := ?_)
                  refine Sim.sP (i := 2) (d := some 95) (h := ?_)
                  refine Sim.sO (i := 3) (d := some 96) (v := ?_) (hy := ?_) (h := ?_)
                  rotate_left
                  · first | refine Or.inl ⟨by rfl, fun w hO => ?_⟩ | (refine Or.inr ⟨by rfl, ?_⟩; with_reducible rfl)
                    first | done | (have hF := hO; (try simp only [Own, Item.Holds, apartI, CellsAt, Nat.reduceAdd, Nat.zero_add, List.mem_cons, List.not_mem_nil, or_false, forall_eq_or_imp, forall_eq, ne_eq, false_imp_iff, implies_true, and_true] at hF); ((have ⟨d0, d1, d2⟩ := ptAt (HB.out.below hO.base) HXI.out.2; have ⟨e0, e1, e2⟩ := ptAt (HB.out.below hO.base) HXJ.out.2)); refine Out.same ?_; go_simp; all_goals with_reducible rfl)
                  refine Sim.sO (i := 4) (d := some 97) (v := ?_) (hy := ?_) (h := ?_)
                  rotate_left
                  · first | refine Or.inl ⟨by rfl, fun w hO => ?_⟩ | (refine Or.inr ⟨by rfl, ?_⟩; with_reducible rfl)
                    first | done | (refine Out.call (f := 96) (args := ?_) ?_ ?_; rotate_left; (focus (go_simp; all_goals with_reducible rfl)); exact HKS.out _)
                  refine Sim.sP (i := 5) (d := some 98) (h := ?_)
                  refine Sim.sP (i := 6) (d := some 99) (h := ?_)
                  refine Sim.sP (i := 7) (d := some 100) (h := ?_)
                  refine Sim.sO (i := 8) (d := some 101) (v := ?_) (hy := ?_) (h := ?_)
                  rotate_left
                  · first | refine Or.inl ⟨by rfl, fun w hO => ?_⟩ | (refine Or.inr ⟨by rfl, ?_⟩; with_reducible rfl)
                    first | done | (have hF := hO; (try simp only [Own, Item.Holds, apartI, CellsAt, Nat.reduceAdd, Nat.zero_add, List.mem_cons, List.not_mem_nil, or_false, forall_eq_or_imp, forall_eq, ne_eq, false_imp_iff, implies_true, and_true] at hF); ((have ⟨d0, d1, d2⟩ := ptAt (HB.out.below hO.base) HXI.out.2; have ⟨e0, e1, e2⟩ := ptAt (HB.out.below hO.base) HXJ.out.2)); refine Out.same ?_; go_simp; all_goals with_reducible rfl)
                  refine Sim.sO (i := 9) (d := some 102) (v := ?_) (hy := ?_) (h := ?_)
                  rotate_left
                  · first | refine Or.inl ⟨by rfl, fun w hO => ?_⟩ | (refine Or.inr ⟨by rfl, ?_⟩; with_reducible rfl)
                    first | done | (refine Out.call (f := 96) (args := ?_) ?_ ?_; rotate_left; (focus (go_simp; all_goals with_reducible rfl)); exact HKQ.out _)
                  refine Sim.sP (i := 10) (d := some 103) (h := ?_)
                  refine Sim.sP (i := 11) (d := some 104) (h := ?_)
                  refine Sim.sP (i := 12) (d := some 13) (h := ?_)
                  refine Sim.done (by kernel_rfl) (fun w1 hO hX => ?_) _
                  (try simp only [World.size_alloc1, World.size_drew, Nat.reduceAdd] at hO); (try simp only [upd, updI, List.map_cons, List.map_nil, eq_self, if_true, if_false, reduceIte, Nat.add_eq_left, Nat.left_eq_add, Nat.reduceEqDiff, List.set_cons_zero, List.set_cons_succ] at hO)
                  have hF := hO; (try simp only [Own, Item.Holds, apartI, CellsAt, Nat.reduceAdd, Nat.zero_add, List.mem_cons, List.not_mem_nil, or_false, forall_eq_or_imp, forall_eq, ne_eq, false_imp_iff, implies_true, and_true] at hF)
                  have te := HT.out.1
                  have tf := HT.out.2
                  by_cases hg1 : 0 < X
                  · have b1 : decide (0 < X) = true := decide_eq_true hg1
                    by_cases hg2 : E2 = wt
                    · by_cases hg3 : F2 = wt
                      · subst hg2
                        have HE := hid (show mvZ a b = 5 + (p : Int) by
                          have hpa : prP a b E2 := ⟨i, j, by omega, hjl, HPA.out.2 ⟨hg1, rfl, hg3⟩⟩
                          rw [← HW.out] at hpa
                          rcases (show p = 0 ∨ p = 1 by omega) with rfl | rfl
                          · exact mv_fifths HV.out hpa
                          · exact mv_octaves HV.out (HP.out.1 (by omega)) hpa)
                        subst hg3
                        clear HPA
                        go_wp2
                        all_goals
                          go_ret
                          exact ⟨ret_int HE.out.symm, hO.base⟩
                      · have b3 : (F2 == wt) = false := by simp [hg3]
                        have HU := hid (show ∀ j', i < j' → j' < j + 1 → ¬ paP a b wt i j' from fun j' h1 h2 => by
                          rcases (show j' < j ∨ j' = j by omega) with h | rfl
                          · exact hpj.out j' h1 h
                          · intro hc
                            have := HPA.out.1 hc
                            omega)
                        clear HPA
                        go_wp2
                        all_goals
                          go_roundw
                          case rel => exact ⟨j + 1, by omega, by omega, by go_num, HU.out, hO⟩
                          case measure => simp [intOf]; omega
                    · have b2 : (E2 == wt) = false := by simp [hg2]
                      have HU := hid (show ∀ j', i < j' → j' < j + 1 → ¬ paP a b wt i j' from fun j' h1 h2 => by
                        rcases (show j' < j ∨ j' = j by omega) with h | rfl
                        · exact hpj.out j' h1 h
                        · intro hc
                          have := HPA.out.1 hc
                          omega)
                      clear HPA
                      go_wp2
                      all_goals
                        go_roundw
                        case rel => exact ⟨j + 1, by omega, by omega, by go_num, HU.out, hO⟩
                        case measure => simp [intOf]; omega
                  · have b1 : decide (0 < X) = false := decide_eq_false hg1
                    have HU := hid (show ∀ j', i < j' → j' < j + 1 → ¬ paP a b wt i j' from fun j' h1 h2 => by
                      rcases (show j' < j ∨ j' = j by omega) with h | rfl
                      · exact hpj.out j' h1 h
                      · intro hc
                        have := HPA.out.1 hc
                        omega)
                    clear HPA
                    go_wp2
                    all_goals
                      go_roundw
                      case rel => exact ⟨j + 1, by omega, by omega, by go_num, HU.out, hO⟩
                      case measure => simp [intOf]; omega
    · have hkl : k < 4 := by omega
      have hk2 : (k : Int) < 4 := by omega
      have hk0 : (0 : Int) ≤ (k : Int) := by omega
      obtain ⟨x, hx⟩ : ∃ x, a[k]? = some x := ⟨_, List.getElem?_eq_getElem (by have := HN.out.1; omega)⟩
      obtain ⟨y, hy⟩ : ∃ x, b[k]? = some x := ⟨_, List.getElem?_eq_getElem (by have := HN.out.2; omega)⟩
      have HX := hid (And.intro hx hy)
      obtain ⟨d0, d1, d2⟩ := ptAt (HA.out.below hO.base) hx
      obtain ⟨u, hu⟩ : ∃ b, pvP x = b := ⟨_, rfl⟩
      obtain ⟨v, hv'⟩ : ∃ b, pvP y = b := ⟨_, rfl⟩
      have HV1 := hid (fun W => pvS_is W (show pvB x.s x.a x.o = u from hu))
      have HV2 := hid (fun W => pvS_is W (show pvB y.s y.a y.o = v from hv'))
      have HB2 := hid (And.intro hu hv')
      clear he hu hv'
      cases u
      · have HE := hid (mv_voices (a := a) (b := b) (fun hc => by rw [vo4_bad (List.mem_of_getElem? hx) HB2.out.1] at hc; cases hc.1))
        clear hx hy
        go_wp2_with ((go_at_call 52; apply own_at hO; (repeat (first | (with_reducible exact hO) | (with_reducible apply Own.alloc) | (with_reducible apply Own.drew) | ((with_reducible apply Own.set_at); (focus (show _ ≤ _; omega))))); have hG := hF; clear hF; clear hO; intro hO; refine own_call hO (fun hB => HV1.out _) ?_; clear hO; intro w1 hO; (try simp only [World.size_alloc1, World.size_drew, Nat.reduceAdd] at hO); (try simp only [upd, updI, List.map_cons, List.map_nil, eq_self, if_true, if_false, reduceIte, Nat.add_eq_left, Nat.left_eq_add, Nat.reduceEqDiff, List.set_cons_zero, List.set_cons_succ, hG] at hO); clear hG; have hF := hO; (try simp only [Own, Item.Holds, apartI, CellsAt, Nat.reduceAdd, Nat.zero_add, List.mem_cons, List.not_mem_nil, or_false, forall_eq_or_imp, forall_eq, ne_eq, false_imp_iff, implies_true, and_true] at hF)); clear HV1)
        go_ret
        exact ⟨ret_int HE.out.symm, Own.base (by first | exact hO | (repeat (first | (with_reducible exact hO) | (with_reducible apply Own.alloc) | (with_reducible apply Own.drew) | ((with_reducible apply Own.set_at); (focus (show _ ≤ _; omega))))))⟩
      · cases v
        · have HE := hid (mv_voices (a := a) (b := b) (fun hc => by rw [vo4_bad (List.mem_of_getElem? hy) HB2.out.2] at hc; cases hc.2))
          clear hx hy
          go_wp2_with (first | ((go_at_call 52; apply own_at hO; (repeat (first | (with_reducible exact hO) | (with_reducible apply Own.alloc) | (with_reducible apply Own.drew) | ((with_reducible apply Own.set_at); (focus (show _ ≤ _; omega))))); have hG := hF; clear hF; clear hO; intro hO; refine own_call hO (fun hB => HV1.out _) ?_; clear hO; intro w1 hO; (try simp only [World.size_alloc1, World.size_drew, Nat.reduceAdd] at hO); (try simp only [upd, updI, List.map_cons, List.map_nil, eq_self, if_true, if_false, reduceIte, Nat.add_eq_left, Nat.left_eq_add, Nat.reduceEqDiff, List.set_cons_zero, List.set_cons_succ, hG] at hO); clear hG; have hF := hO; (try simp only [Own, Item.Holds, apartI, CellsAt, Nat.reduceAdd, Nat.zero_add, List.mem_cons, List.not_mem_nil, or_false, forall_eq_or_imp, forall_eq, ne_eq, false_imp_iff, implies_true, and_true] at hF)); clear HV1; have ⟨e0, e1, e2⟩ := ptAt (HB.out.below hO.base) HX.out.2) | (go_at_call 52; apply own_at hO; (repeat (first | (with_reducible exact hO) | (with_reducible apply Own.alloc) | (with_reducible apply Own.drew) | ((with_reducible apply Own.set_at); (focus (show _ ≤ _; omega))))); have hG := hF; clear hF; clear hO; intro hO; refine own_call hO (fun hB => HV2.out _) ?_; clear hO; intro w1 hO; (try simp only [World.size_alloc1, World.size_drew, Nat.reduceAdd] at hO); (try simp only [upd, updI, List.map_cons, List.map_nil, eq_self, if_true, if_false, reduceIte, Nat.add_eq_left, Nat.left_eq_add, Nat.reduceEqDiff, List.set_cons_zero, List.set_cons_succ, hG] at hO); clear hG; have hF := hO; (try simp only [Own, Item.Holds, apartI, CellsAt, Nat.reduceAdd, Nat.zero_add, List.mem_cons, List.not_mem_nil, or_false, forall_eq_or_imp, forall_eq, ne_eq, false_imp_iff, implies_true, and_true] at hF)))
          go_ret
          exact ⟨ret_int HE.out.symm, Own.base (by first | exact hO | (repeat (first | (with_reducible exact hO) | (with_reducible apply Own.alloc) | (with_reducible apply Own.drew) | ((with_reducible apply Own.set_at); (focus (show _ ≤ _; omega))))))⟩
        · have HU := hid (show ∀ i, i < k + 1 → (∀ x, a[i]? = some x → pvP x = true) ∧ ∀ x, b[i]? = some x → pvP x = true from fun i hi => by
            rcases (show i < k ∨ i = k by omega) with h | rfl
            · exact hv.out i h
            · exact ⟨fun z hz => by rw [HX.out.1] at hz; cases hz; exact HB2.out.1, fun z hz => by rw [HX.out.2] at hz; cases hz; exact HB2.out.2⟩)
          clear hx hy
          go_wp2_with (first | ((go_at_call 52; apply own_at hO; (repeat (first | (with_reducible exact hO) | (with_reducible apply Own.alloc) | (with_reducible apply Own.drew) | ((with_reducible apply Own.set_at); (focus (show _ ≤ _; omega))))); have hG := hF; clear hF; clear hO; intro hO; refine own_call hO (fun hB => HV1.out _) ?_; clear hO; intro w1 hO; (try simp only [World.size_alloc1, World.size_drew, Nat.reduceAdd] at hO); (try simp only [upd, updI, List.map_cons, List.map_nil, eq_self, if_true, if_false, reduceIte, Nat.add_eq_left, Nat.left_eq_add, Nat.reduceEqDiff, List.set_cons_zero, List.set_cons_succ, hG] at hO); clear hG; have hF := hO; (try simp only [Own, Item.Holds, apartI, CellsAt, Nat.reduceAdd, Nat.zero_add, List.mem_cons, List.not_mem_nil, or_false, forall_eq_or_imp, forall_eq, ne_eq, false_imp_iff, implies_true, and_true] at hF)); clear HV1; have ⟨e0, e1, e2⟩ := ptAt (HB.out.below hO.base) HX.out.2) | (go_at_call 52; apply own_at hO; (repeat (first | (with_reducible exact hO) | (with_reducible apply Own.alloc) | (with_reducible apply Own.drew) | ((with_reducible apply Own.set_at); (focus (show _ ≤ _; omega))))); have hG := hF; clear hF; clear hO; intro hO; refine own_call hO (fun hB => HV2.out _) ?_; clear hO; intro w1 hO; (try simp only [World.size_alloc1, World.size_drew, Nat.reduceAdd] at hO); (try simp only [upd, updI, List.map_cons, List.map_nil, eq_self, if_true, if_false, reduceIte, Nat.add_eq_left, Nat.left_eq_add, Nat.reduceEqDiff, List.set_cons_zero, List.set_cons_succ, hG] at hO); clear hG; have hF := hO; (try simp only [Own, Item.Holds, apartI, CellsAt, Nat.reduceAdd, Nat.zero_add, List.mem_cons, List.not_mem_nil, or_false, forall_eq_or_imp, forall_eq, ne_eq, false_imp_iff, implies_true, and_true] at hF)))
          go_roundw
          case rel => exact ⟨k + 1, by omega, by go_num, HU.out, by first | exact hO | exact Own.drop hO⟩
          case measure => simp [intOf]; omega

theorem mvS_any (va vb : Value) (a b : List Pt) (w : World) (hs : SlAt w va a.length 3 (pcC a)) (ht : SlAt w vb b.length 3 (pcC b)) (ha : a.length ≤ 1048576) (hb : b.length ≤ 1048576) :
    Calls Tryd.prog 71 #[va, vb] w fun e w' => e = .returned (.int .i64 (mvZ a b)) ∧ Below w.heap.size w w' := by
  by_cases h : a.length = 4 ∧ b.length = 4
  · rw [h.1] at hs
    rw [h.2] at ht
    exact mvS_in va vb a b w hs ht h.1 h.2
  · have hO := Own.start w
    have hF := True.intro
    obtain ⟨A, c, rfl, na, _⟩ := hs.open
    obtain ⟨A', c', rfl, nb, _⟩ := ht.open
    have HE := hid (mv_voices (a := a) (b := b) (fun hc => h ⟨(vo4_iff.1 hc.1).2, (vo4_iff.1 hc.2).2⟩))
    obtain ⟨n, hn⟩ : ∃ n, a.length = n := ⟨_, rfl⟩
    obtain ⟨m, hm⟩ : ∃ n, b.length = n := ⟨_, rfl⟩
    rw [hn] at h
    rw [hm] at h
    rw [hn, hm]
    clear hs ht ha hb hn hm
    by_cases h4 : n = 4
    · subst h4
      have h5 : ((m : Int) == 4) = false := by simp; omega
      have h6 : ¬ (m : Int) = 4 := by omega
      have h7 : ((m : Int) != 4) = true := by simp; omega
      clear h
      go_enter Tryd.func71, Tryd.ntmps71
      go_wp2_with fail
      go_ret
      exact ⟨ret_int HE.out.symm, hO.base⟩
    · have h5 : ((n : Int) == 4) = false := by simp; omega
      have h6 : ¬ (n : Int) = 4 := by omega
      have h7 : ((n : Int) != 4) = true := by simp; omega
      clear h h4
      go_enter Tryd.func71, Tryd.ntmps71
      go_wp2_with fail
      go_ret
      exact ⟨ret_int HE.out.symm, hO.base⟩
end Go.Proofs.YtfdglkiehkilnaaDoor
