/- Chapter 17 in the model: AnswerHead. -/
import Derived.Test.YtcgcnkddgihkpaaDoorWalks17S
import Derived.Test.YtcgcnkddgihkpaaDoorWalksEqN
namespace Go.Proofs.YtcgcnkddgihkpaaDoor
set_option linter.unusedSimpArgs false
set_option linter.unusedVariables false
set_option maxRecDepth 8000
open Go.RowKit Go.Joins

theorem taS17 {f i : Int} {m b : Bool} {va : Value} {v u : List Nt} {n l : Nat} {w : World} (hl : v.length = n) (hs : SlAt w va n 6 (vcC v)) (hn : n ≤ 1048576) (hu : taL f m v i = u) (hk : u.length = l) (hb : taB f m v i = b) (W : World) (hW : Below w.heap.size w W) :
    Calls Tryd.prog 23 #[.int .i64 f, .bool m, va, .int .i64 i] W (RowOutB 39 6 l (vcC u) b W) := by
  subst hl hu hk hb; exact taS_any f m va v i W (hs.below hW) hn

set_option maxRecDepth 20000 in
set_option maxHeartbeats 8000000 in
theorem ahS_any (f : Int) (mi : Bool) (va vb : Value) (v u : List Nt) (w : World) (h1 : SlAt w va v.length 6 (vcC v)) (h2 : SlAt w vb u.length 6 (vcC u)) (hn : v.length ≤ 1048576) (hm : u.length ≤ 1048576) :
    Calls Tryd.prog 29 #[.int .i64 f, .bool mi, va, vb] w fun e w' => e = .returned (.int .i64 (ahZ f mi v u)) ∧ Below w.heap.size w w' := by
  have hO := Own.start w
  have hF := True.intro
  obtain ⟨A, c, rfl, nb, hA⟩ := h1.open
  obtain ⟨A', c', rfl, mb, hA'⟩ := h2.open
  obtain ⟨n, hnl⟩ : ∃ n, v.length = n := ⟨_, rfl⟩
  obtain ⟨m, hml⟩ : ∃ n, u.length = n := ⟨_, rfl⟩
  rw [hnl] at h1 hn nb ⊢
  rw [hml] at h2 hm mb hA' ⊢
  have HT := hid (fun (i : Int) (b : Bool) (x : List Nt) (l : Nat) (hu : taL f mi v i = x) (hk : x.length = l) (hb : taB f mi v i = b) => taS17 hnl h1 hn hu hk hb)
  have H2 := hid h2
  have HN := hid hnl
  have HM := hid hml
  clear h1 h2 hnl hml hA
  go_enter Tryd.func29, Tryd.ntmps29
  go_wp2_with fail
  go_loopw [9] (fun t wr => ∃ k : Nat, k ≤ n + 1 ∧ t = .int .i64 k ∧ Hid (∀ i, i < k → ¬ ahP f mi v u i) ∧ Own w.heap.size (Below w.heap.size w) wr []) (fun t _ => n + 1 - (intOf t).toNat)
  case atStart => exact ⟨0, by omega, rfl, fun i hi => by omega, hO⟩
  case round =>
    clear hO hF
    obtain ⟨k, hk, rfl, hno, hO⟩ := hrel
    have hF := True.intro
    by_cases he : n < k
    · have he2 : ¬ (k : Int) ≤ n := by omega
      have HE := hid (show ahZ f mi v u = -1 from ah_no fun i hi => hno.out i (by have := HN.out; omega))
      clear hno he hk
      go_wp2_with fail
      go_ret
      exact ⟨ret_int HE.out.symm, hO.base⟩
    · have hkn : (k : Int) ≤ n := by omega
      obtain ⟨b, hb⟩ : ∃ x, taB f mi v k = x := ⟨_, rfl⟩
      obtain ⟨x, hx⟩ : ∃ x, taL f mi v k = x := ⟨_, rfl⟩
      obtain ⟨l, hl⟩ : ∃ l, x.length = l := ⟨_, rfl⟩
      have HC := hid (HT.out k b x l hx hl hb)
      have HK := hid (And.intro hk he)
      have HX := hid (And.intro hx (And.intro hl hb))
      have hl9 : l ≤ n := by rw [← hl, ← hx, ← HN.out]; exact taL_len f mi v k
      have HNo := hid (show ¬ ahP f mi v u k → ∀ i, i < k + 1 → ¬ ahP f mi v u i from fun h i hi => by
        rcases (show i < k ∨ i = k by omega) with g | rfl
        · exact hno.out i g
        · exact h)
      have HYes := hid (show ahP f mi v u k → ahZ f mi v u = k from fun h => ah_is (by have := HN.out; omega) h hno.out)
      clear hx hl hb hno hk he
      by_cases hbl : b = true ∧ l = m
      · obtain ⟨rfl, rfl⟩ := hbl
        have hll : ((l : Int) == (l : Int)) = true := by simp
        go_wp2_with fail
        (go_at_call 23; apply own_at hO; (repeat (first | (with_reducible exact hO) | (with_reducible apply Own.alloc) | (with_reducible apply Own.drew) | ((with_reducible apply Own.set_at); (focus (show _ ≤ _; omega))))); have hG := hF; clear hF; clear hO; intro hO; refine own_call_rowB hO (fun hB => HC.out _ hB) ?_; clear hO; intro v w1 hO; (try simp only [World.size_alloc1, World.size_drew, Nat.reduceAdd] at hO); (try simp only [upd, updI, List.map_cons, List.map_nil, eq_self, if_true, if_false, reduceIte, Nat.add_eq_left, Nat.left_eq_add, Nat.reduceEqDiff, List.set_cons_zero, List.set_cons_succ, hG] at hO); clear hG; have hF := hO; (try simp only [Own, Item.Holds, apartI, CellsAt, Nat.reduceAdd, Nat.zero_add, List.mem_cons, List.not_mem_nil, or_false, forall_eq_or_imp, forall_eq, ne_eq, false_imp_iff, implies_true, and_true] at hF))
        obtain ⟨A9, k9, hv9⟩ := (SlAt.of_row hO.1.1).form
        subst hv9
        go_wp2_with fail
        go_loopw [11, 12] (fun ok t wr => ∃ (i : Nat) (e : Bool), i ≤ l ∧ t = .int .i64 i ∧ ok = .bool e ∧ Hid (e = true ↔ ∀ q : Nat, q < i → x[q]? = u[q]?) ∧ Own w.heap.size (Below w.heap.size w) wr [.row 39 6 (.slice A9 l k9) l (vcC x)]) (fun _ t _ => l - (intOf t).toNat)
        case atStart => exact ⟨0, true, by omega, rfl, rfl, ⟨fun _ q hq => by omega, fun _ => rfl⟩, hO⟩
        case round =>
          clear hO hF
          obtain ⟨i, e, hi, rfl, rfl, hei, hO⟩ := hrel
          have hF := True.intro
          cases e
          · have HE := hid (HNo.out fun h => by
              have h3 := hei.out.2 fun q _ => by rw [← h.2, ← HX.out.1, taL_yes HX.out.2.2]
              cases h3)
            by_cases hil : i = l
            · subst hil
              clear hei
              go_wp2_with fail
              go_roundw
              case rel => exact ⟨k + 1, by have := HK.out; omega, by go_num, HE.out, Own.drop hO⟩
              case measure => have := HK.out; simp [intOf]; omega
            · have hil2 : (i : Int) < l := by omega
              clear hei hil
              go_wp2_with fail
              go_roundw
              case rel => exact ⟨k + 1, by have := HK.out; omega, by go_num, HE.out, Own.drop hO⟩
              case measure => have := HK.out; simp [intOf]; omega
          · by_cases hil : i = l
            · subst hil
              have HE := hid (show ahZ f mi v u = k from HYes.out ⟨HX.out.2.2, by
                rw [← taL_yes HX.out.2.2, HX.out.1]
                refine List.ext_getElem? fun q => ?_
                by_cases hq : q < i
                · exact hei.out.1 rfl q hq
                · rw [List.getElem?_eq_none (by have := HX.out.2.1; omega), List.getElem?_eq_none (by have := HM.out; omega)]⟩)
              clear hei
              go_wp2_with fail
              go_ret
              exact ⟨ret_int HE.out.symm, hO.base⟩
            · have hlt : i < l := by omega
              have hil2 : (i : Int) < l := by omega
              have hi0 : (0 : Int) ≤ (i : Int) := by omega
              obtain ⟨X, hX⟩ : ∃ z, x[i]? = some z := ⟨_, List.getElem?_eq_getElem (by have := HX.out.2.1; omega)⟩
              obtain ⟨Y, hY⟩ : ∃ z, u[i]? = some z := ⟨_, List.getElem?_eq_getElem (by have := HM.out; omega)⟩
              have hslr := SlAt.of_row hO.1.1
              obtain ⟨A8, k8, e8, hk8, hA8⟩ := hslr.open
              cases e8
              obtain ⟨q8, o8, rfl, hc8, hc9, hq8⟩ := hA8 (by omega)
              obtain ⟨q7, o7, rfl, hc6, hc7, hq7⟩ := hA' (by omega)
              have HX9 := hid hX
              have HY9 := hid hY
              have HLT := hid hlt
              clear hslr hA8 hil hlt
              by_cases hxy : X = Y
              · subst hxy
                have HB2 := hid (show ∀ q : Nat, q < i + 1 → x[q]? = u[q]? from fun q hq => by
                  rcases (show q < i ∨ q = i by omega) with h | rfl
                  · exact hei.out.1 rfl q h
                  · rw [HX9.out, HY9.out])
                clear hX hY hei
                go_wp2_with fail
                apply own_code hO
                (repeat (first | (with_reducible exact hO) | (with_reducible apply Own.alloc) | (with_reducible apply Own.drew) | ((with_reducible apply Own.set_at); (focus (show _ ≤ _; omega)))))
                have hG := hF; clear hF; clear hO; intro hO
                (try simp only [World.size_alloc1, World.size_drew, Nat.reduceAdd] at hO); (try simp only [upd, updI, List.map_cons, List.map_nil, eq_self, if_true, if_false, reduceIte, Nat.add_eq_left, Nat.left_eq_add, Nat.reduceEqDiff, List.set_cons_zero, List.set_cons_succ, hG] at hO); clear hG
                refine region_own (X := fun _ => True) [] (by kernel_rfl) (hO) (trivial) (by first | exact XStab.true | exact XStab.rd | exact XStab.rdIf) ?_
                clear hO
                refine Sim.takeP (i := 0) (d := some 44) (v := ?_) rfl rfl (by kernel_rfl) (by kernel_rfl) (by kernel_rfl) (fun _ _ _ h => h) (by first | exact XStab.true | exact XStab.rd | exact XStab.rdIf) ?_ ?_
                rotate_left
                · first | refine Or.inl ⟨by rfl, fun w => ?_⟩ | (refine Or.inr ⟨by rfl, ?_⟩; with_reducible rfl)
                  first | done | (go_simp; all_goals with_reducible rfl)
                try simp only [Act.put, List.setIfInBounds_toArray, List.set_cons_zero, List.set_cons_succ]
                refine Sim.takeP (i := 1) (d := some 45) (v := ?_) rfl rfl (by kernel_rfl) (by kernel_rfl) (by kernel_rfl) (fun _ _ _ h => h) (by first | exact XStab.true | exact XStab.rd | exact XStab.rdIf) ?_ ?_
                rotate_left
                · first | refine Or.inl ⟨by rfl, fun w => ?_⟩ | (refine Or.inr ⟨by rfl, ?_⟩; with_reducible rfl)
                  first | done | (go_simp; all_goals with_reducible rfl)
                try simp only [Act.put, List.setIfInBounds_toArray, List.set_cons_zero, List.set_cons_succ]
                refine Sim.takeP (i := 2) (d := some 46) (v := ?_) rfl rfl (by kernel_rfl) (by kernel_rfl) (by kernel_rfl) (fun _ _ _ h => h) (by first | exact XStab.true | exact XStab.rd | exact XStab.rdIf) ?_ ?_
                rotate_left
                · first | refine Or.inl ⟨by rfl, fun w => ?_⟩ | (refine Or.inr ⟨by rfl, ?_⟩; with_reducible rfl)
                  first | done | (go_simp; all_goals with_reducible rfl)
                try simp only [Act.put, List.setIfInBounds_toArray, List.set_cons_zero, List.set_cons_succ]
                refine Sim.take (i := 3) (d := some 47) (v := ?_) rfl rfl (by kernel_rfl) (by kernel_rfl) (by kernel_rfl) (by kernel_rfl) (fun _ _ _ h => h) (by first | exact XStab.true | exact XStab.rd | exact XStab.rdIf) ?_ ?_
                rotate_left
                · first | refine Or.inl ⟨by rfl, fun w hO => ?_⟩ | (refine Or.inr ⟨by rfl, ?_⟩; with_reducible rfl)
                  first | done | (have hF := hO; (try simp only [Own, Item.Holds, apartI, CellsAt, Nat.reduceAdd, Nat.zero_add, List.mem_cons, List.not_mem_nil, or_false, forall_eq_or_imp, forall_eq, ne_eq, false_imp_iff, implies_true, and_true] at hF); ((have ⟨g0, g1, g2, g3, g4, g5⟩ := noteAt (SlAt.of_row hO.1.1) HX9.out; have ⟨k0, k1, k2, k3, k4, k5⟩ := noteAt (H2.out.below hO.base) HY9.out)); refine Out.same ?_; go_simp; all_goals with_reducible rfl)
                try simp only [Act.put, List.setIfInBounds_toArray, List.set_cons_zero, List.set_cons_succ]
                refine Sim.takeP (i := 4) (d := some 48) (v := ?_) rfl rfl (by kernel_rfl) (by kernel_rfl) (by kernel_rfl) (fun _ _ _ h => h) (by first | exact XStab.true | exact XStab.rd | exact XStab.rdIf) ?_ ?_
                rotate_left
                · first | refine Or.inl ⟨by rfl, fun w => ?_⟩ | (refine Or.inr ⟨by rfl, ?_⟩; with_reducible rfl)
                  first | done | (go_simp; all_goals with_reducible rfl)
                try simp only [Act.put, List.setIfInBounds_toArray, List.set_cons_zero, List.set_cons_succ]
                refine Sim.takeP (i := 5) (d := some 49) (v := ?_) rfl rfl (by kernel_rfl) (by kernel_rfl) (by kernel_rfl) (fun _ _ _ h => h) (by first | exact XStab.true | exact XStab.rd | exact XStab.rdIf) ?_ ?_
                rotate_left
                · first | refine Or.inl ⟨by rfl, fun w => ?_⟩ | (refine Or.inr ⟨by rfl, ?_⟩; with_reducible rfl)
                  first | done | (go_simp; all_goals with_reducible rfl)
                try simp only [Act.put, List.setIfInBounds_toArray, List.set_cons_zero, List.set_cons_succ]
                refine Sim.takeP (i := 6) (d := some 50) (v := ?_) rfl rfl (by kernel_rfl) (by kernel_rfl) (by kernel_rfl) (fun _ _ _ h => h) (by first | exact XStab.true | exact XStab.rd | exact XStab.rdIf) ?_ ?_
                rotate_left
                · first | refine Or.inl ⟨by rfl, fun w => ?_⟩ | (refine Or.inr ⟨by rfl, ?_⟩; with_reducible rfl)
                  first | done | (go_simp; all_goals with_reducible rfl)
                try simp only [Act.put, List.setIfInBounds_toArray, List.set_cons_zero, List.set_cons_succ]
                refine Sim.take (i := 7) (d := some 51) (v := ?_) rfl rfl (by kernel_rfl) (by kernel_rfl) (by kernel_rfl) (by kernel_rfl) (fun _ _ _ h => h) (by first | exact XStab.true | exact XStab.rd | exact XStab.rdIf) ?_ ?_
                rotate_left
                · first | refine Or.inl ⟨by rfl, fun w hO => ?_⟩ | (refine Or.inr ⟨by rfl, ?_⟩; with_reducible rfl)
                  first | done | (have hF := hO; (try simp only [Own, Item.Holds, apartI, CellsAt, Nat.reduceAdd, Nat.zero_add, List.mem_cons, List.not_mem_nil, or_false, forall_eq_or_imp, forall_eq, ne_eq, false_imp_iff, implies_true, and_true] at hF); ((have ⟨g0, g1, g2, g3, g4, g5⟩ := noteAt (SlAt.of_row hO.1.1) HX9.out; have ⟨k0, k1, k2, k3, k4, k5⟩ := noteAt (H2.out.below hO.base) HY9.out)); refine Out.same ?_; go_simp; all_goals with_reducible rfl)
                try simp only [Act.put, List.setIfInBounds_toArray, List.set_cons_zero, List.set_cons_succ]
                refine Sim.takeP (i := 8) (d := some 52) (v := ?_) rfl rfl (by kernel_rfl) (by kernel_rfl) (by kernel_rfl) (fun _ _ _ h => h) (by first | exact XStab.true | exact XStab.rd | exact XStab.rdIf) ?_ ?_
                rotate_left
                · first | refine Or.inl ⟨by rfl, fun w => ?_⟩ | (refine Or.inr ⟨by rfl, ?_⟩; with_reducible rfl)
                  first | done | (go_simp; all_goals with_reducible rfl)
                try simp only [Act.put, List.setIfInBounds_toArray, List.set_cons_zero, List.set_cons_succ]
                refine Sim.takeP (i := 9) (d := some 11) (v := ?_) rfl rfl (by kernel_rfl) (by kernel_rfl) (by kernel_rfl) (fun _ _ _ h => h) (by first | exact XStab.true | exact XStab.rd | exact XStab.rdIf) ?_ ?_
                rotate_left
                · first | refine Or.inl ⟨by rfl, fun w => ?_⟩ | (refine Or.inr ⟨by rfl, ?_⟩; with_reducible rfl)
                  first | done | (go_simp; all_goals with_reducible rfl)
                try simp only [Act.put, List.setIfInBounds_toArray, List.set_cons_zero, List.set_cons_succ]
                refine Sim.done (by kernel_rfl) (fun w1 hO hX => ?_) _
                (try simp only [World.size_alloc1, World.size_drew, Nat.reduceAdd] at hO); (try simp only [upd, updI, List.map_cons, List.map_nil, eq_self, if_true, if_false, reduceIte, Nat.add_eq_left, Nat.left_eq_add, Nat.reduceEqDiff, List.set_cons_zero, List.set_cons_succ] at hO)
                have hF := hO; (try simp only [Own, Item.Holds, apartI, CellsAt, Nat.reduceAdd, Nat.zero_add, List.mem_cons, List.not_mem_nil, or_false, forall_eq_or_imp, forall_eq, ne_eq, false_imp_iff, implies_true, and_true] at hF)
                go_wp2_with fail
                go_roundw
                case rel => exact ⟨i + 1, true, by have := HLT.out; omega, by go_num, rfl, ⟨fun _ => HB2.out, fun _ => rfl⟩, hO⟩
                case measure => have := HLT.out; simp [intOf]; omega
              · have HB2 := hid (show (false = true ↔ ∀ q : Nat, q < i + 1 → x[q]? = u[q]?) from ⟨fun h => (by cases h), fun h => by
                  have := h i (by omega)
                  rw [HX9.out, HY9.out] at this
                  exact absurd (Option.some.inj this) hxy⟩)
                have hne : ∀ {α : Type} (A B : α), (if X.r = Y.r then (if X.s = Y.s then (if X.a = Y.a then (if X.o = Y.o then (if X.t = Y.t then (if X.y = Y.y then A else B) else B) else B) else B) else B) else B) = B := ne16 hxy
                clear hX hY hei hxy
                go_wp2_with fail
                apply own_code hO
                (repeat (first | (with_reducible exact hO) | (with_reducible apply Own.alloc) | (with_reducible apply Own.drew) | ((with_reducible apply Own.set_at); (focus (show _ ≤ _; omega)))))
                have hG := hF; clear hF; clear hO; intro hO
                (try simp only [World.size_alloc1, World.size_drew, Nat.reduceAdd] at hO); (try simp only [upd, updI, List.map_cons, List.map_nil, eq_self, if_true, if_false, reduceIte, Nat.add_eq_left, Nat.left_eq_add, Nat.reduceEqDiff, List.set_cons_zero, List.set_cons_succ, hG] at hO); clear hG
                refine region_own (X := fun _ => True) [] (by kernel_rfl) (hO) (trivial) (by first | exact XStab.true | exact XStab.rd | exact XStab.rdIf) ?_
                clear hO
                refine Sim.takeP (i := 0) (d := some 44) (v := ?_) rfl rfl (by kernel_rfl) (by kernel_rfl) (by kernel_rfl) (fun _ _ _ h => h) (by first | exact XStab.true | exact XStab.rd | exact XStab.rdIf) ?_ ?_
                rotate_left
                · first | refine Or.inl ⟨by rfl, fun w => ?_⟩ | (refine Or.inr ⟨by rfl, ?_⟩; with_reducible rfl)
                  first | done | (go_simp; all_goals with_reducible rfl)
                try simp only [Act.put, List.setIfInBounds_toArray, List.set_cons_zero, List.set_cons_succ]
                refine Sim.takeP (i := 1) (d := some 45) (v := ?_) rfl rfl (by kernel_rfl) (by kernel_rfl) (by kernel_rfl) (fun _ _ _ h => h) (by first | exact XStab.true | exact XStab.rd | exact XStab.rdIf) ?_ ?_
                rotate_left
                · first | refine Or.inl ⟨by rfl, fun w => ?_⟩ | (refine Or.inr ⟨by rfl, ?_⟩; with_reducible rfl)
                  first | done | (go_simp; all_goals with_reducible rfl)
                try simp only [Act.put, List.setIfInBounds_toArray, List.set_cons_zero, List.set_cons_succ]
                refine Sim.takeP (i := 2) (d := some 46) (v := ?_) rfl rfl (by kernel_rfl) (by kernel_rfl) (by kernel_rfl) (fun _ _ _ h => h) (by first | exact XStab.true | exact XStab.rd | exact XStab.rdIf) ?_ ?_
                rotate_left
                · first | refine Or.inl ⟨by rfl, fun w => ?_⟩ | (refine Or.inr ⟨by rfl, ?_⟩; with_reducible rfl)
                  first | done | (go_simp; all_goals with_reducible rfl)
                try simp only [Act.put, List.setIfInBounds_toArray, List.set_cons_zero, List.set_cons_succ]
                refine Sim.take (i := 3) (d := some 47) (v := ?_) rfl rfl (by kernel_rfl) (by kernel_rfl) (by kernel_rfl) (by kernel_rfl) (fun _ _ _ h => h) (by first | exact XStab.true | exact XStab.rd | exact XStab.rdIf) ?_ ?_
                rotate_left
                · first | refine Or.inl ⟨by rfl, fun w hO => ?_⟩ | (refine Or.inr ⟨by rfl, ?_⟩; with_reducible rfl)
                  first | done | (have hF := hO; (try simp only [Own, Item.Holds, apartI, CellsAt, Nat.reduceAdd, Nat.zero_add, List.mem_cons, List.not_mem_nil, or_false, forall_eq_or_imp, forall_eq, ne_eq, false_imp_iff, implies_true, and_true] at hF); ((have ⟨g0, g1, g2, g3, g4, g5⟩ := noteAt (SlAt.of_row hO.1.1) HX9.out; have ⟨k0, k1, k2, k3, k4, k5⟩ := noteAt (H2.out.below hO.base) HY9.out)); refine Out.same ?_; go_simp; all_goals with_reducible rfl)
                try simp only [Act.put, List.setIfInBounds_toArray, List.set_cons_zero, List.set_cons_succ]
                refine Sim.takeP (i := 4) (d := some 48) (v := ?_) rfl rfl (by kernel_rfl) (by kernel_rfl) (by kernel_rfl) (fun _ _ _ h => h) (by first | exact XStab.true | exact XStab.rd | exact XStab.rdIf) ?_ ?_
                rotate_left
                · first | refine Or.inl ⟨by rfl, fun w => ?_⟩ | (refine Or.inr ⟨by rfl, ?_⟩; with_reducible rfl)
                  first | done | (go_simp; all_goals with_reducible rfl)
                try simp only [Act.put, List.setIfInBounds_toArray, List.set_cons_zero, List.set_cons_succ]
                refine Sim.takeP (i := 5) (d := some 49) (v := ?_) rfl rfl (by kernel_rfl) (by kernel_rfl) (by kernel_rfl) (fun _ _ _ h => h) (by first | exact XStab.true | exact XStab.rd | exact XStab.rdIf) ?_ ?_
                rotate_left
                · first | refine Or.inl ⟨by rfl, fun w => ?_⟩ | (refine Or.inr ⟨by rfl, ?_⟩; with_reducible rfl)
                  first | done | (go_simp; all_goals with_reducible rfl)
                try simp only [Act.put, List.setIfInBounds_toArray, List.set_cons_zero, List.set_cons_succ]
                refine Sim.takeP (i := 6) (d := some 50) (v := ?_) rfl rfl (by kernel_rfl) (by kernel_rfl) (by kernel_rfl) (fun _ _ _ h => h) (by first | exact XStab.true | exact XStab.rd | exact XStab.rdIf) ?_ ?_
                rotate_left
                · first | refine Or.inl ⟨by rfl, fun w => ?_⟩ | (refine Or.inr ⟨by rfl, ?_⟩; with_reducible rfl)
                  first | done | (go_simp; all_goals with_reducible rfl)
                try simp only [Act.put, List.setIfInBounds_toArray, List.set_cons_zero, List.set_cons_succ]
                refine Sim.take (i := 7) (d := some 51) (v := ?_) rfl rfl (by kernel_rfl) (by kernel_rfl) (by kernel_rfl) (by kernel_rfl) (fun _ _ _ h => h) (by first | exact XStab.true | exact XStab.rd | exact XStab.rdIf) ?_ ?_
                rotate_left
                · first | refine Or.inl ⟨by rfl, fun w hO => ?_⟩ | (refine Or.inr ⟨by rfl, ?_⟩; with_reducible rfl)
                  first | done | (have hF := hO; (try simp only [Own, Item.Holds, apartI, CellsAt, Nat.reduceAdd, Nat.zero_add, List.mem_cons, List.not_mem_nil, or_false, forall_eq_or_imp, forall_eq, ne_eq, false_imp_iff, implies_true, and_true] at hF); ((have ⟨g0, g1, g2, g3, g4, g5⟩ := noteAt (SlAt.of_row hO.1.1) HX9.out; have ⟨k0, k1, k2, k3, k4, k5⟩ := noteAt (H2.out.below hO.base) HY9.out)); refine Out.same ?_; go_simp; all_goals with_reducible rfl)
                try simp only [Act.put, List.setIfInBounds_toArray, List.set_cons_zero, List.set_cons_succ]
                refine Sim.takeP (i := 8) (d := some 52) (v := ?_) rfl rfl (by kernel_rfl) (by kernel_rfl) (by kernel_rfl) (fun _ _ _ h => h) (by first | exact XStab.true | exact XStab.rd | exact XStab.rdIf) ?_ ?_
                rotate_left
                · first | refine Or.inl ⟨by rfl, fun w => ?_⟩ | (refine Or.inr ⟨by rfl, ?_⟩; with_reducible rfl)
                  first | done | (go_simp; all_goals with_reducible rfl)
                try simp only [Act.put, List.setIfInBounds_toArray, List.set_cons_zero, List.set_cons_succ]
                refine Sim.takeP (i := 9) (d := some 11) (v := ?_) rfl rfl (by kernel_rfl) (by kernel_rfl) (by kernel_rfl) (fun _ _ _ h => h) (by first | exact XStab.true | exact XStab.rd | exact XStab.rdIf) ?_ ?_
                rotate_left
                · first | refine Or.inl ⟨by rfl, fun w => ?_⟩ | (refine Or.inr ⟨by rfl, ?_⟩; with_reducible rfl)
                  first | done | (go_simp; all_goals with_reducible rfl)
                try simp only [Act.put, List.setIfInBounds_toArray, List.set_cons_zero, List.set_cons_succ]
                refine Sim.done (by kernel_rfl) (fun w1 hO hX => ?_) _
                (try simp only [World.size_alloc1, World.size_drew, Nat.reduceAdd] at hO); (try simp only [upd, updI, List.map_cons, List.map_nil, eq_self, if_true, if_false, reduceIte, Nat.add_eq_left, Nat.left_eq_add, Nat.reduceEqDiff, List.set_cons_zero, List.set_cons_succ] at hO)
                have hF := hO; (try simp only [Own, Item.Holds, apartI, CellsAt, Nat.reduceAdd, Nat.zero_add, List.mem_cons, List.not_mem_nil, or_false, forall_eq_or_imp, forall_eq, ne_eq, false_imp_iff, implies_true, and_true] at hF)
                go_wp2_with fail
                go_roundw
                case rel => exact ⟨i + 1, false, by have := HLT.out; omega, by go_num, rfl, HB2.out, hO⟩
                case measure => have := HLT.out; simp [intOf]; omega
      · have HE := hid (HNo.out fun h => hbl ⟨by rw [← HX.out.2.2]; exact h.1, by
          rw [← HX.out.2.1, ← HX.out.1, taL_yes h.1, h.2]; exact HM.out⟩)
        have hmain : ∀ (b' : Bool), b' = b → (b' = false ∨ (b' = true ∧ ((l : Int) == (m : Int)) = false ∧ ¬ (l : Int) = m)) := fun b' e => by
          subst e
          cases b' with
          | false => exact .inl rfl
          | true => exact .inr ⟨rfl, by simp; intro h; exact hbl ⟨rfl, by omega⟩, fun h => hbl ⟨rfl, by omega⟩⟩
        have hmain2 := hmain b rfl
        clear hmain hbl
        rcases hmain2 with rfl | ⟨rfl, q1, q2⟩
        all_goals
          go_wp2_with fail
          (go_at_call 23; apply own_at hO; (repeat (first | (with_reducible exact hO) | (with_reducible apply Own.alloc) | (with_reducible apply Own.drew) | ((with_reducible apply Own.set_at); (focus (show _ ≤ _; omega))))); have hG := hF; clear hF; clear hO; intro hO; refine own_call_rowB hO (fun hB => HC.out _ hB) ?_; clear hO; intro v w1 hO; (try simp only [World.size_alloc1, World.size_drew, Nat.reduceAdd] at hO); (try simp only [upd, updI, List.map_cons, List.map_nil, eq_self, if_true, if_false, reduceIte, Nat.add_eq_left, Nat.left_eq_add, Nat.reduceEqDiff, List.set_cons_zero, List.set_cons_succ, hG] at hO); clear hG; have hF := hO; (try simp only [Own, Item.Holds, apartI, CellsAt, Nat.reduceAdd, Nat.zero_add, List.mem_cons, List.not_mem_nil, or_false, forall_eq_or_imp, forall_eq, ne_eq, false_imp_iff, implies_true, and_true] at hF))
          obtain ⟨A9, k9, hv9⟩ := (SlAt.of_row hO.1.1).form
          subst hv9
          go_wp2_with fail
          go_loopw [11, 12] (fun ok t wr => t = .int .i64 0 ∧ ok = .bool false ∧ Own w.heap.size (Below w.heap.size w) wr [.row 39 6 (.slice A9 l k9) l (vcC x)]) (fun _ _ _ => 0)
          case atStart => exact ⟨rfl, rfl, hO⟩
          case round =>
            clear hO hF
            obtain ⟨rfl, rfl, hO⟩ := hrel
            have hF := True.intro
            by_cases hl0 : l = 0
            · subst hl0
              go_wp2_with fail
              go_roundw
              case rel => exact ⟨k + 1, by have := HK.out; omega, by go_num, HE.out, Own.drop hO⟩
              case measure => have := HK.out; simp [intOf]; omega
            · have hl1 : (0 : Int) < (l : Int) := by omega
              clear hl0
              go_wp2_with fail
              go_roundw
              case rel => exact ⟨k + 1, by have := HK.out; omega, by go_num, HE.out, Own.drop hO⟩
              case measure => have := HK.out; simp [intOf]; omega
theorem ahS_C (w : World) : CAh 29 w := fun f m va vb v u W _ h1 h2 hn hm _ => ahS_any f m va vb v u W h1 h2 hn hm
end Go.Proofs.YtcgcnkddgihkpaaDoor
