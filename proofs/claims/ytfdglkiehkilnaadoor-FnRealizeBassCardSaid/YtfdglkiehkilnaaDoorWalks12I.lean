/- Chapter 12 in the program: the keys of four voices and their faults: StackFault. -/
import Derived.Test.YtfdglkiehkilnaaDoorOwn
import Derived.Test.YtfdglkiehkilnaaDoorWalks10V
import Derived.Test.YtfdglkiehkilnaaDoorWalks1
import Derived.Test.YtfdglkiehkilnaaDoorWalks12S
import Derived.Test.YtfdglkiehkilnaaDoorTab2
import Derived.Test.YtfdglkiehkilnaaDoorRegionD
namespace Go.Proofs.YtfdglkiehkilnaaDoor
set_option linter.unusedSimpArgs false
set_option linter.unusedVariables false
set_option maxRecDepth 8000
open Go.RowKit Go.Joins

/-- The ranges of the voices lie as the program's text lays them. -/
def rngLL : List (List Int) := [[28, 48], [36, 55], [43, 62], [48, 67]]
def TabV (w : World) : Prop := Lib.TabIs Tryd.prog w "loop.example/musicengine/impl.voiceRanges" .i64 rngLL.flatten
theorem gV : Tryd.prog.globalNamed "loop.example/musicengine/impl.voiceRanges" = some 2 := by kernel_rfl
theorem TabV.below {w w' : World} (h : TabV w) (hb : Below w.heap.size w w') : TabV w' := tab_stays gV h hb (Nat.le_refl _)
theorem rngLL_len : rngLL.flatten.length = 8 := rfl
theorem rng_at {i : Nat} (h : i < 4) : rngLL.flatten.getD (i * 2) 0 = loZ i ∧ rngLL.flatten.getD (i * 2 + 1) 0 = hiZ i := by
  rcases (show i = 0 ∨ i = 1 ∨ i = 2 ∨ i = 3 by omega) with rfl | rfl | rfl | rfl <;> exact ⟨rfl, rfl⟩
theorem TabV.cell {w : World} (h : TabV w) {i : Nat} (hi : i < 4) : w.cell? ⟨2, i * 2, none⟩ = some (.int .i64 (loZ i)) ∧ w.cell? ⟨2, i * 2 + 1, none⟩ = some (.int .i64 (hiZ i)) := by
  obtain ⟨h1, h2⟩ := rng_at hi
  exact ⟨by rw [Lib.TabIs.cell h gV (i * 2) (by rw [rngLL_len]; omega), h1], by rw [Lib.TabIs.cell h gV (i * 2 + 1) (by rw [rngLL_len]; omega), h2]⟩

/-- Four keys are those of the list. -/
def K4 (l : List Pt) (a b c d : Int) : Prop := ∀ i, i < 4 → [a, b, c, d][i]? = some (k4 l i)
theorem k4_self (l : List Pt) : K4 l (k4 l 0) (k4 l 1) (k4 l 2) (k4 l 3) := fun i hi => by
  rcases (show i = 0 ∨ i = 1 ∨ i = 2 ∨ i = 3 by omega) with rfl | rfl | rfl | rfl <;> rfl

theorem idx_ky (a b c d : Int) {k : Nat} (h : k < 4) (w : World) :
    (Instr.index 92 (.agg #[.int .i64 a, .int .i64 b, .int .i64 c, .int .i64 d]) (.int .i64 k)).run Tryd.prog w = .ok (.int .i64 ([a, b, c, d].getD k 0)) w := by
  rcases (show k = 0 ∨ k = 1 ∨ k = 2 ∨ k = 3 by omega) with rfl | rfl | rfl | rfl
  all_goals kernel_rfl

set_option maxHeartbeats 2000000 in
theorem crI_is {l : List Pt} {a b c d : Int} (hk : K4 l a b c d) {x : Bool} (hx : x = true ↔ crP l) (w : World) :
    Calls Tryd.prog 73 #[.agg #[.int .i64 a, .int .i64 b, .int .i64 c, .int .i64 d]] w fun e w' => e = .returned (.bool x) ∧ Below w.heap.size w w' := by
  have hO := Own.start w
  have hF := True.intro
  have HK := hid hk
  have HX := hid hx
  clear hk hx
  go_enter Tryd.func73, Tryd.ntmps73
  go_wp2_with fail
  (apply own_code hO; (repeat (first | (with_reducible exact hO) | (with_reducible apply Own.alloc) | (with_reducible apply Own.drew) | ((with_reducible apply Own.set_at); (focus (show _ ≤ _; omega))))); have hG := hF; clear hF; clear hO; intro hO; (try simp only [World.size_alloc1, World.size_drew, Nat.reduceAdd] at hO); (try simp only [upd, updI, List.map_cons, List.map_nil, eq_self, if_true, if_false, reduceIte, Nat.add_eq_left, Nat.left_eq_add, Nat.reduceEqDiff, List.set_cons_zero, List.set_cons_succ, hG] at hO); clear hG; have hF := hO; (try simp only [Own, Item.Holds, apartI, CellsAt, Nat.reduceAdd, Nat.zero_add, List.mem_cons, List.not_mem_nil, or_false, forall_eq_or_imp, forall_eq, ne_eq, false_imp_iff, implies_true, and_true] at hF))
  go_loopw [3] (fun t wr => ∃ i : Nat, i ≤ 3 ∧ t = .int .i64 ((i : Int) + 1) ∧ Hid (∀ j, j < i → ¬ k4 l (j + 1) < k4 l j) ∧ Own w.heap.size (Below w.heap.size w) wr [.blk w.heap.size [.int .i64 a, .int .i64 b, .int .i64 c, .int .i64 d]]) (fun t _ => 4 - (intOf t).toNat)
  case atStart => exact ⟨0, by omega, rfl, fun j hj => by omega, hO⟩
  case round =>
    clear hO hF
    obtain ⟨i, hi, rfl, hcr, hO⟩ := hrel
    have hF := hO; (try simp only [Own, Item.Holds, apartI, CellsAt, Nat.reduceAdd, Nat.zero_add, List.mem_cons, List.not_mem_nil, or_false, forall_eq_or_imp, forall_eq, ne_eq, false_imp_iff, implies_true, and_true] at hF)
    by_cases he : i = 3
    · subst he
      have HE := hid (show x = false from (Bool.not_eq_true x).mp fun h => by obtain ⟨j, hj, hc⟩ := HX.out.1 h; exact hcr.out j hj hc)
      clear hcr hi
      go_wp2_with fail
      go_ret
      exact ⟨ret_bool HE.out.symm, Own.base (by first | exact hO | (repeat (first | (with_reducible exact hO) | (with_reducible apply Own.alloc) | (with_reducible apply Own.drew) | ((with_reducible apply Own.set_at); (focus (show _ ≤ _; omega))))))⟩
    · have hil : i < 3 := by omega
      have hi2 : (i : Int) < 3 := by omega
      have hi0 : (0 : Int) ≤ (i : Int) := by omega
      have wi : IntKind.i64.wrap ((i : Int) + 1 - 1) = (i : Int) := by rw [show (i : Int) + 1 - 1 = (i : Int) by omega]; exact IntWalk.i64_in _ (by omega)
      have wi2 : IntKind.i64.wrap (i : Int) = (i : Int) := IntWalk.i64_in _ (by omega)
      have wj : IntKind.i64.wrap ((i : Int) + 1 + 1) = (i : Int) + 1 + 1 := IntWalk.i64_in _ (by omega)
      have hj1 : (i : Int) + 1 < 4 := by omega
      have hj2 : (i : Int) < 4 := by omega
      have hj3 : (0 : Int) ≤ (i : Int) + 1 := by omega
      obtain ⟨z1, hz1⟩ : ∃ z, k4 l (i + 1) = z := ⟨_, rfl⟩
      obtain ⟨z2, hz2⟩ : ∃ z, k4 l i = z := ⟨_, rfl⟩
      have h1 := HK.out (i + 1) (by omega)
      have h2 := HK.out i (by omega)
      rw [hz1] at h1
      rw [hz2] at h2
      have HZ := hid (And.intro hz1 hz2)
      have HJ := hid (And.intro h1 h2)
      clear he hz1 hz2 h1 h2
      by_cases hc : z1 < z2
      · have HE := hid (show x = true from HX.out.2 ⟨i, by omega, by rw [HZ.out.1, HZ.out.2]; exact hc⟩)
        go_wp2_with fail
        apply own_code hO
        (repeat (first | (with_reducible exact hO) | (with_reducible apply Own.alloc) | (with_reducible apply Own.drew) | ((with_reducible apply Own.set_at); (focus (show _ ≤ _; omega)))))
        have hG := hF; clear hF; clear hO; intro hO
        (try simp only [World.size_alloc1, World.size_drew, Nat.reduceAdd] at hO); (try simp only [upd, updI, List.map_cons, List.map_nil, eq_self, if_true, if_false, reduceIte, Nat.add_eq_left, Nat.left_eq_add, Nat.reduceEqDiff, List.set_cons_zero, List.set_cons_succ, hG] at hO); clear hG
        refine region_own (X := fun _ => True) [] (by kernel_rfl) (hO) (trivial) (by first | exact XStab.true | exact XStab.rd | exact XStab.rdIf) ?_
        clear hO
        refine Sim.sP (i := 0) (d := some 8) (h := ?_)
        refine Sim.sP (i := 1) (d := some 9) (h := ?_)
        refine Sim.sO (i := 2) (d := some 10) (v := ?_) (hy := ?_) (h := ?_)
        rotate_left
        · first | refine Or.inl ⟨by rfl, fun w hO => ?_⟩ | (refine Or.inr ⟨by rfl, ?_⟩; with_reducible rfl)
          first | done | (have hF := hO; (try simp only [Own, Item.Holds, apartI, CellsAt, Nat.reduceAdd, Nat.zero_add, List.mem_cons, List.not_mem_nil, or_false, forall_eq_or_imp, forall_eq, ne_eq, false_imp_iff, implies_true, and_true] at hF); ((have c0 := own_ints [a, b, c, d] hO List.mem_cons_self HJ.out.1; have c1 := own_ints [a, b, c, d] hO List.mem_cons_self HJ.out.2)); refine Out.same ?_; go_simp; all_goals with_reducible rfl)
        refine Sim.sP (i := 3) (d := some 11) (h := ?_)
        refine Sim.sP (i := 4) (d := some 12) (h := ?_)
        refine Sim.sP (i := 5) (d := some 13) (h := ?_)
        refine Sim.sO (i := 6) (d := some 14) (v := ?_) (hy := ?_) (h := ?_)
        rotate_left
        · first | refine Or.inl ⟨by rfl, fun w hO => ?_⟩ | (refine Or.inr ⟨by rfl, ?_⟩; with_reducible rfl)
          first | done | (have hF := hO; (try simp only [Own, Item.Holds, apartI, CellsAt, Nat.reduceAdd, Nat.zero_add, List.mem_cons, List.not_mem_nil, or_false, forall_eq_or_imp, forall_eq, ne_eq, false_imp_iff, implies_true, and_true] at hF); ((have c0 := own_ints [a, b, c, d] hO List.mem_cons_self HJ.out.1; have c1 := own_ints [a, b, c, d] hO List.mem_cons_self HJ.out.2)); refine Out.same ?_; go_simp; all_goals with_reducible rfl)
        refine Sim.sP (i := 7) (d := some 15) (h := ?_)
        refine Sim.done (by kernel_rfl) (fun w1 hO hX => ?_) _
        (try simp only [World.size_alloc1, World.size_drew, Nat.reduceAdd] at hO); (try simp only [upd, updI, List.map_cons, List.map_nil, eq_self, if_true, if_false, reduceIte, Nat.add_eq_left, Nat.left_eq_add, Nat.reduceEqDiff, List.set_cons_zero, List.set_cons_succ] at hO)
        have hF := hO; (try simp only [Own, Item.Holds, apartI, CellsAt, Nat.reduceAdd, Nat.zero_add, List.mem_cons, List.not_mem_nil, or_false, forall_eq_or_imp, forall_eq, ne_eq, false_imp_iff, implies_true, and_true] at hF)
        all_goals
          go_wp2
          go_ret
          exact ⟨ret_bool HE.out.symm, Own.base (by first | exact hO | (repeat (first | (with_reducible exact hO) | (with_reducible apply Own.alloc) | (with_reducible apply Own.drew) | ((with_reducible apply Own.set_at); (focus (show _ ≤ _; omega))))))⟩
      · have HU := hid (upto_P hcr.out (show ¬ k4 l (i + 1) < k4 l i by rw [HZ.out.1, HZ.out.2]; exact hc))
        go_wp2_with fail
        apply own_code hO
        (repeat (first | (with_reducible exact hO) | (with_reducible apply Own.alloc) | (with_reducible apply Own.drew) | ((with_reducible apply Own.set_at); (focus (show _ ≤ _; omega)))))
        have hG := hF; clear hF; clear hO; intro hO
        (try simp only [World.size_alloc1, World.size_drew, Nat.reduceAdd] at hO); (try simp only [upd, updI, List.map_cons, List.map_nil, eq_self, if_true, if_false, reduceIte, Nat.add_eq_left, Nat.left_eq_add, Nat.reduceEqDiff, List.set_cons_zero, List.set_cons_succ, hG] at hO); clear hG
        refine region_own (X := fun _ => True) [] (by kernel_rfl) (hO) (trivial) (by first | exact XStab.true | exact XStab.rd | exact XStab.rdIf) ?_
        clear hO
        refine Sim.sP (i := 0) (d := some 8) (h := ?_)
        refine Sim.sP (i := 1) (d := some 9) (h := ?_)
        refine Sim.sO (i := 2) (d := some 10) (v := ?_) (hy := ?_) (h := ?_)
        rotate_left
        · first | refine Or.inl ⟨by rfl, fun w hO => ?_⟩ | (refine Or.inr ⟨by rfl, ?_⟩; with_reducible rfl)
          first | done | (have hF := hO; (try simp only [Own, Item.Holds, apartI, CellsAt, Nat.reduceAdd, Nat.zero_add, List.mem_cons, List.not_mem_nil, or_false, forall_eq_or_imp, forall_eq, ne_eq, false_imp_iff, implies_true, and_true] at hF); ((have c0 := own_ints [a, b, c, d] hO List.mem_cons_self HJ.out.1; have c1 := own_ints [a, b, c, d] hO List.mem_cons_self HJ.out.2)); refine Out.same ?_; go_simp; all_goals with_reducible rfl)
        refine Sim.sP (i := 3) (d := some 11) (h := ?_)
        refine Sim.sP (i := 4) (d := some 12) (h := ?_)
        refine Sim.sP (i := 5) (d := some 13) (h := ?_)
        refine Sim.sO (i := 6) (d := some 14) (v := ?_) (hy := ?_) (h := ?_)
        rotate_left
        · first | refine Or.inl ⟨by rfl, fun w hO => ?_⟩ | (refine Or.inr ⟨by rfl, ?_⟩; with_reducible rfl)
          first | done | (have hF := hO; (try simp only [Own, Item.Holds, apartI, CellsAt, Nat.reduceAdd, Nat.zero_add, List.mem_cons, List.not_mem_nil, or_false, forall_eq_or_imp, forall_eq, ne_eq, false_imp_iff, implies_true, and_true] at hF); ((have c0 := own_ints [a, b, c, d] hO List.mem_cons_self HJ.out.1; have c1 := own_ints [a, b, c, d] hO List.mem_cons_self HJ.out.2)); refine Out.same ?_; go_simp; all_goals with_reducible rfl)
        refine Sim.sP (i := 7) (d := some 15) (h := ?_)
        refine Sim.done (by kernel_rfl) (fun w1 hO hX => ?_) _
        (try simp only [World.size_alloc1, World.size_drew, Nat.reduceAdd] at hO); (try simp only [upd, updI, List.map_cons, List.map_nil, eq_self, if_true, if_false, reduceIte, Nat.add_eq_left, Nat.left_eq_add, Nat.reduceEqDiff, List.set_cons_zero, List.set_cons_succ] at hO)
        have hF := hO; (try simp only [Own, Item.Holds, apartI, CellsAt, Nat.reduceAdd, Nat.zero_add, List.mem_cons, List.not_mem_nil, or_false, forall_eq_or_imp, forall_eq, ne_eq, false_imp_iff, implies_true, and_true] at hF)
        all_goals
          go_wp2
          go_roundw
          case rel => first | exact ⟨i + 1, by omega, by go_num, HU.out, hO⟩ | exact ⟨i + 1, by omega, by go_num, (fun j hj => by have := HU.out j hj; omega), hO⟩ | exact ⟨i + 1, by omega, by go_num, (fun j hj => by have := HU.out j hj; omega), Own.drop hO⟩ | exact ⟨i + 1, by omega, by go_num, HU⟩
          case measure => simp [intOf]; omega

set_option maxHeartbeats 2000000 in
theorem faI_is {l : List Pt} {a b c d : Int} (hk : K4 l a b c d) (hv : vo4 l = true) {x : Bool} (hx : x = true ↔ faP l) (w : World) :
    Calls Tryd.prog 74 #[.agg #[.int .i64 a, .int .i64 b, .int .i64 c, .int .i64 d]] w fun e w' => e = .returned (.bool x) ∧ Below w.heap.size w w' := by
  have hO := Own.start w
  have hF := True.intro
  have HK := hid hk
  have HX := hid hx
  have HV := hid hv
  clear hk hx hv
  go_enter Tryd.func74, Tryd.ntmps74
  go_wp2_with fail
  (apply own_code hO; (repeat (first | (with_reducible exact hO) | (with_reducible apply Own.alloc) | (with_reducible apply Own.drew) | ((with_reducible apply Own.set_at); (focus (show _ ≤ _; omega))))); have hG := hF; clear hF; clear hO; intro hO; (try simp only [World.size_alloc1, World.size_drew, Nat.reduceAdd] at hO); (try simp only [upd, updI, List.map_cons, List.map_nil, eq_self, if_true, if_false, reduceIte, Nat.add_eq_left, Nat.left_eq_add, Nat.reduceEqDiff, List.set_cons_zero, List.set_cons_succ, hG] at hO); clear hG; have hF := hO; (try simp only [Own, Item.Holds, apartI, CellsAt, Nat.reduceAdd, Nat.zero_add, List.mem_cons, List.not_mem_nil, or_false, forall_eq_or_imp, forall_eq, ne_eq, false_imp_iff, implies_true, and_true] at hF))
  go_loopw [3] (fun t wr => ∃ i : Nat, i ≤ 2 ∧ t = .int .i64 ((i : Int) + 2) ∧ Hid (∀ j, j < i → ¬ 12 < k4 l (j + 1 + 1) - k4 l (j + 1)) ∧ Own w.heap.size (Below w.heap.size w) wr [.blk w.heap.size [.int .i64 a, .int .i64 b, .int .i64 c, .int .i64 d]]) (fun t _ => 4 - (intOf t).toNat)
  case atStart => exact ⟨0, by omega, rfl, fun j hj => by omega, hO⟩
  case round =>
    clear hO hF
    obtain ⟨i, hi, rfl, hcr, hO⟩ := hrel
    have hF := hO; (try simp only [Own, Item.Holds, apartI, CellsAt, Nat.reduceAdd, Nat.zero_add, List.mem_cons, List.not_mem_nil, or_false, forall_eq_or_imp, forall_eq, ne_eq, false_imp_iff, implies_true, and_true] at hF)
    by_cases he : i = 2
    · subst he
      have HE := hid (show x = false from Bool.not_eq_true x ▸ fun h => by
        obtain ⟨j, h1, hj, hc⟩ := HX.out.1 h
        obtain ⟨m, rfl⟩ : ∃ m, j = m + 1 := ⟨j - 1, by omega⟩
        exact hcr.out m (by omega) hc)
      clear hcr hi
      go_wp2_with fail
      go_ret
      exact ⟨ret_bool HE.out.symm, Own.base (by first | exact hO | (repeat (first | (with_reducible exact hO) | (with_reducible apply Own.alloc) | (with_reducible apply Own.drew) | ((with_reducible apply Own.set_at); (focus (show _ ≤ _; omega))))))⟩
    · have hil : i < 2 := by omega
      have hi2 : (i : Int) < 2 := by omega
      have hi0 : (0 : Int) ≤ (i : Int) := by omega
      have wi : IntKind.i64.wrap ((i : Int) + 2 - 1) = (i : Int) + 1 := by rw [show (i : Int) + 2 - 1 = (i : Int) + 1 by omega]; exact IntWalk.i64_in _ (by omega)
      have wi2 : IntKind.i64.wrap ((i : Int) + 1) = (i : Int) + 1 := IntWalk.i64_in _ (by omega)
      have wj : IntKind.i64.wrap ((i : Int) + 2 + 1) = (i : Int) + 2 + 1 := IntWalk.i64_in _ (by omega)
      have hj1 : (i : Int) + 2 < 4 := by omega
      have hj2 : (i : Int) + 1 < 4 := by omega
      have hj3 : (0 : Int) ≤ (i : Int) + 2 := by omega
      have hj4 : (0 : Int) ≤ (i : Int) + 1 := by omega
      have tn : ((i : Int) + 2).toNat = i + 1 + 1 := by omega
      obtain ⟨z1, hz1⟩ : ∃ z, k4 l (i + 1 + 1) = z := ⟨_, rfl⟩
      obtain ⟨z2, hz2⟩ : ∃ z, k4 l (i + 1) = z := ⟨_, rfl⟩
      have b1 := k4_bd HV.out (i := i + 1 + 1) (by omega)
      have b2 := k4_bd HV.out (i := i + 1) (by omega)
      rw [hz1] at b1
      rw [hz2] at b2
      have wz : IntKind.i64.wrap (z1 - z2) = z1 - z2 := IntWalk.i64_in _ (by omega)
      have h1 := HK.out (i + 1 + 1) (by omega)
      have h2 := HK.out (i + 1) (by omega)
      rw [hz1] at h1
      rw [hz2] at h2
      have HZ := hid (And.intro hz1 hz2)
      have HJ := hid (And.intro h1 h2)
      clear he hz1 hz2 h1 h2
      by_cases hc : 12 < z1 - z2
      · have HE := hid (show x = true from HX.out.2 ⟨i + 1, by omega, by omega, by rw [HZ.out.1, HZ.out.2]; exact hc⟩)
        go_wp2_with fail
        apply own_code hO
        (repeat (first | (with_reducible exact hO) | (with_reducible apply Own.alloc) | (with_reducible apply Own.drew) | ((with_reducible apply Own.set_at); (focus (show _ ≤ _; omega)))))
        have hG := hF; clear hF; clear hO; intro hO
        (try simp only [World.size_alloc1, World.size_drew, Nat.reduceAdd] at hO); (try simp only [upd, updI, List.map_cons, List.map_nil, eq_self, if_true, if_false, reduceIte, Nat.add_eq_left, Nat.left_eq_add, Nat.reduceEqDiff, List.set_cons_zero, List.set_cons_succ, hG] at hO); clear hG
        refine region_own (X := fun _ => True) [] (by kernel_rfl) (hO) (trivial) (by first | exact XStab.true | exact XStab.rd | exact XStab.rdIf) ?_
        clear hO
        refine Sim.sP (i := 0) (d := some 8) (h := ?_)
        refine Sim.sP (i := 1) (d := some 9) (h := ?_)
        refine Sim.sO (i := 2) (d := some 10) (v := ?_) (hy := ?_) (h := ?_)
        rotate_left
        · first | refine Or.inl ⟨by rfl, fun w hO => ?_⟩ | (refine Or.inr ⟨by rfl, ?_⟩; with_reducible rfl)
          first | done | (have hF := hO; (try simp only [Own, Item.Holds, apartI, CellsAt, Nat.reduceAdd, Nat.zero_add, List.mem_cons, List.not_mem_nil, or_false, forall_eq_or_imp, forall_eq, ne_eq, false_imp_iff, implies_true, and_true] at hF); ((have c0 := own_ints [a, b, c, d] hO List.mem_cons_self HJ.out.1; have c1 := own_ints [a, b, c, d] hO List.mem_cons_self HJ.out.2)); refine Out.same ?_; go_simp; all_goals with_reducible rfl)
        refine Sim.sP (i := 3) (d := some 11) (h := ?_)
        refine Sim.sP (i := 4) (d := some 12) (h := ?_)
        refine Sim.sP (i := 5) (d := some 13) (h := ?_)
        refine Sim.sO (i := 6) (d := some 14) (v := ?_) (hy := ?_) (h := ?_)
        rotate_left
        · first | refine Or.inl ⟨by rfl, fun w hO => ?_⟩ | (refine Or.inr ⟨by rfl, ?_⟩; with_reducible rfl)
          first | done | (have hF := hO; (try simp only [Own, Item.Holds, apartI, CellsAt, Nat.reduceAdd, Nat.zero_add, List.mem_cons, List.not_mem_nil, or_false, forall_eq_or_imp, forall_eq, ne_eq, false_imp_iff, implies_true, and_true] at hF); ((have c0 := own_ints [a, b, c, d] hO List.mem_cons_self HJ.out.1; have c1 := own_ints [a, b, c, d] hO List.mem_cons_self HJ.out.2)); refine Out.same ?_; go_simp; all_goals with_reducible rfl)
        refine Sim.sP (i := 7) (d := some 15) (h := ?_)
        refine Sim.sP (i := 8) (d := some 16) (h := ?_)
        refine Sim.done (by kernel_rfl) (fun w1 hO hX => ?_) _
        (try simp only [World.size_alloc1, World.size_drew, Nat.reduceAdd] at hO); (try simp only [upd, updI, List.map_cons, List.map_nil, eq_self, if_true, if_false, reduceIte, Nat.add_eq_left, Nat.left_eq_add, Nat.reduceEqDiff, List.set_cons_zero, List.set_cons_succ] at hO)
        have hF := hO; (try simp only [Own, Item.Holds, apartI, CellsAt, Nat.reduceAdd, Nat.zero_add, List.mem_cons, List.not_mem_nil, or_false, forall_eq_or_imp, forall_eq, ne_eq, false_imp_iff, implies_true, and_true] at hF)
        all_goals
          go_wp2
          go_ret
          exact ⟨ret_bool HE.out.symm, Own.base (by first | exact hO | (repeat (first | (with_reducible exact hO) | (with_reducible apply Own.alloc) | (with_reducible apply Own.drew) | ((with_reducible apply Own.set_at); (focus (show _ ≤ _; omega))))))⟩
      · have HU := hid (upto_P hcr.out (show ¬ 12 < k4 l (i + 1 + 1) - k4 l (i + 1) by rw [HZ.out.1, HZ.out.2]; exact hc))
        go_wp2_with fail
        apply own_code hO
        (repeat (first | (with_reducible exact hO) | (with_reducible apply Own.alloc) | (with_reducible apply Own.drew) | ((with_reducible apply Own.set_at); (focus (show _ ≤ _; omega)))))
        have hG := hF; clear hF; clear hO; intro hO
        (try simp only [World.size_alloc1, World.size_drew, Nat.reduceAdd] at hO); (try simp only [upd, updI, List.map_cons, List.map_nil, eq_self, if_true, if_false, reduceIte, Nat.add_eq_left, Nat.left_eq_add, Nat.reduceEqDiff, List.set_cons_zero, List.set_cons_succ, hG] at hO); clear hG
        refine region_own (X := fun _ => True) [] (by kernel_rfl) (hO) (trivial) (by first | exact XStab.true | exact XStab.rd | exact XStab.rdIf) ?_
        clear hO
        refine Sim.sP (i := 0) (d := some 8) (h := ?_)
        refine Sim.sP (i := 1) (d := some 9) (h := ?_)
        refine Sim.sO (i := 2) (d := some 10) (v := ?_) (hy := ?_) (h := ?_)
        rotate_left
        · first | refine Or.inl ⟨by rfl, fun w hO => ?_⟩ | (refine Or.inr ⟨by rfl, ?_⟩; with_reducible rfl)
          first | done | (have hF := hO; (try simp only [Own, Item.Holds, apartI, CellsAt, Nat.reduceAdd, Nat.zero_add, List.mem_cons, List.not_mem_nil, or_false, forall_eq_or_imp, forall_eq, ne_eq, false_imp_iff, implies_true, and_true] at hF); ((have c0 := own_ints [a, b, c, d] hO List.mem_cons_self HJ.out.1; have c1 := own_ints [a, b, c, d] hO List.mem_cons_self HJ.out.2)); refine Out.same ?_; go_simp; all_goals with_reducible rfl)
        refine Sim.sP (i := 3) (d := some 11) (h := ?_)
        refine Sim.sP (i := 4) (d := some 12) (h := ?_)
        refine Sim.sP (i := 5) (d := some 13) (h := ?_)
        refine Sim.sO (i := 6) (d := some 14) (v := ?_) (hy := ?_) (h := ?_)
        rotate_left
        · first | refine Or.inl ⟨by rfl, fun w hO => ?_⟩ | (refine Or.inr ⟨by rfl, ?_⟩; with_reducible rfl)
          first | done | (have hF := hO; (try simp only [Own, Item.Holds, apartI, CellsAt, Nat.reduceAdd, Nat.zero_add, List.mem_cons, List.not_mem_nil, or_false, forall_eq_or_imp, forall_eq, ne_eq, false_imp_iff, implies_true, and_true] at hF); ((have c0 := own_ints [a, b, c, d] hO List.mem_cons_self HJ.out.1; have c1 := own_ints [a, b, c, d] hO List.mem_cons_self HJ.out.2)); refine Out.same ?_; go_simp; all_goals with_reducible rfl)
        refine Sim.sP (i := 7) (d := some 15) (h := ?_)
        refine Sim.sP (i := 8) (d := some 16) (h := ?_)
        refine Sim.done (by kernel_rfl) (fun w1 hO hX => ?_) _
        (try simp only [World.size_alloc1, World.size_drew, Nat.reduceAdd] at hO); (try simp only [upd, updI, List.map_cons, List.map_nil, eq_self, if_true, if_false, reduceIte, Nat.add_eq_left, Nat.left_eq_add, Nat.reduceEqDiff, List.set_cons_zero, List.set_cons_succ] at hO)
        have hF := hO; (try simp only [Own, Item.Holds, apartI, CellsAt, Nat.reduceAdd, Nat.zero_add, List.mem_cons, List.not_mem_nil, or_false, forall_eq_or_imp, forall_eq, ne_eq, false_imp_iff, implies_true, and_true] at hF)
        all_goals
          go_wp2
          go_roundw
          case rel => first | exact ⟨i + 1, by omega, by go_num, HU.out, hO⟩ | exact ⟨i + 1, by omega, by go_num, (fun j hj => by have := HU.out j hj; omega), hO⟩ | exact ⟨i + 1, by omega, by go_num, (fun j hj => by have := HU.out j hj; omega), Own.drop hO⟩ | exact ⟨i + 1, by omega, by go_num, HU⟩
          case measure => simp [intOf]; omega

set_option maxHeartbeats 2000000 in
theorem orI_is {l : List Pt} {a b c d : Int} (hk : K4 l a b c d) {x : Bool} (hx : x = true ↔ raP l) (w : World) (hT : TabV w) :
    Calls Tryd.prog 75 #[.agg #[.int .i64 a, .int .i64 b, .int .i64 c, .int .i64 d]] w fun e w' => e = .returned (.bool x) ∧ Below w.heap.size w w' := by
  have hO := Own.start w
  have hF := True.intro
  have HK := hid hk
  have HX := hid hx
  have HT := hid hT
  clear hk hx hT
  go_enter Tryd.func75, Tryd.ntmps75
  go_wp2_with fail
  (apply own_code hO; (repeat (first | (with_reducible exact hO) | (with_reducible apply Own.alloc) | (with_reducible apply Own.drew) | ((with_reducible apply Own.set_at); (focus (show _ ≤ _; omega))))); have hG := hF; clear hF; clear hO; intro hO; (try simp only [World.size_alloc1, World.size_drew, Nat.reduceAdd] at hO); (try simp only [upd, updI, List.map_cons, List.map_nil, eq_self, if_true, if_false, reduceIte, Nat.add_eq_left, Nat.left_eq_add, Nat.reduceEqDiff, List.set_cons_zero, List.set_cons_succ, hG] at hO); clear hG; have hF := hO; (try simp only [Own, Item.Holds, apartI, CellsAt, Nat.reduceAdd, Nat.zero_add, List.mem_cons, List.not_mem_nil, or_false, forall_eq_or_imp, forall_eq, ne_eq, false_imp_iff, implies_true, and_true] at hF))
  go_loopw [6] (fun t wr => ∃ i : Nat, i ≤ 4 ∧ t = .int .i64 i ∧ Hid (∀ j, j < i → ¬ (k4 l j < loZ j ∨ hiZ j < k4 l j)) ∧ Own w.heap.size (Below w.heap.size w) wr [.blk w.heap.size [.int .i64 a, .int .i64 b, .int .i64 c, .int .i64 d]]) (fun t _ => 4 - (intOf t).toNat)
  case atStart => exact ⟨0, by omega, rfl, fun j hj => by omega, hO⟩
  case round =>
    clear hO hF
    obtain ⟨i, hi, rfl, hra, hO⟩ := hrel
    have hF := hO; (try simp only [Own, Item.Holds, apartI, CellsAt, Nat.reduceAdd, Nat.zero_add, List.mem_cons, List.not_mem_nil, or_false, forall_eq_or_imp, forall_eq, ne_eq, false_imp_iff, implies_true, and_true] at hF)
    by_cases he : i = 4
    · subst he
      have HE := hid (show x = false from (Bool.not_eq_true x).mp fun h => by obtain ⟨j, hj, hc⟩ := HX.out.1 h; exact hra.out j hj hc)
      clear hra hi
      go_wp2_with fail
      go_ret
      exact ⟨ret_bool HE.out.symm, Own.base (by first | exact hO | (repeat (first | (with_reducible exact hO) | (with_reducible apply Own.alloc) | (with_reducible apply Own.drew) | ((with_reducible apply Own.set_at); (focus (show _ ≤ _; omega))))))⟩
    · have hil : i < 4 := by omega
      have hi2 : (i : Int) < 4 := by omega
      have hi0 : (0 : Int) ≤ (i : Int) := by omega
      obtain ⟨c0, c1⟩ := (HT.out.below hO.base).cell hil
      obtain ⟨z, hz⟩ : ∃ z, k4 l i = z := ⟨_, rfl⟩
      obtain ⟨lo, hlo⟩ : ∃ z, loZ i = z := ⟨_, rfl⟩
      obtain ⟨hh, hhi⟩ : ∃ z, hiZ i = z := ⟨_, rfl⟩
      have h1 := HK.out i hil
      rw [hz] at h1
      rw [hlo] at c0
      rw [hhi] at c1
      have hix : ∀ W : World, (Instr.index 92 (.agg #[.int .i64 a, .int .i64 b, .int .i64 c, .int .i64 d]) (.int .i64 i)).run Tryd.prog W = .ok (.int .i64 z) W := fun W => by
        rw [idx_ky a b c d hil W]
        simp [List.getD, h1]
      have HB := hid (show k4 l i < loZ i ∨ hiZ i < k4 l i ↔ z < lo ∨ hh < z by rw [hz, hlo, hhi])
      clear he hz hlo hhi h1
      by_cases g1 : z < lo
      · have HE := hid (show x = true from HX.out.2 ⟨i, hil, HB.out.2 (Or.inl g1)⟩)
        go_wp2_with fail
        go_ret
        exact ⟨ret_bool HE.out.symm, Own.base (by first | exact hO | (repeat (first | (with_reducible exact hO) | (with_reducible apply Own.alloc) | (with_reducible apply Own.drew) | ((with_reducible apply Own.set_at); (focus (show _ ≤ _; omega))))))⟩
      · by_cases g2 : hh < z
        · have HE := hid (show x = true from HX.out.2 ⟨i, hil, HB.out.2 (Or.inr g2)⟩)
          go_wp2_with fail
          go_ret
          exact ⟨ret_bool HE.out.symm, Own.base (by first | exact hO | (repeat (first | (with_reducible exact hO) | (with_reducible apply Own.alloc) | (with_reducible apply Own.drew) | ((with_reducible apply Own.set_at); (focus (show _ ≤ _; omega))))))⟩
        · have HU := hid (upto_P hra.out (show ¬ (k4 l i < loZ i ∨ hiZ i < k4 l i) from fun h => by rcases HB.out.1 h with h | h <;> contradiction))
          go_wp2_with fail
          go_roundw
          case rel => first | exact ⟨i + 1, by omega, by go_num, HU.out, hO⟩ | exact ⟨i + 1, by omega, by go_num, (fun j hj => by have := HU.out j hj; omega), hO⟩ | exact ⟨i + 1, by omega, by go_num, (fun j hj => by have := HU.out j hj; omega), Own.drop hO⟩ | exact ⟨i + 1, by omega, by go_num, HU⟩ | exact ⟨i + 1, by omega, by go_num, HU.out, Own.drop hO⟩
          case measure => simp [intOf]; omega

/- Chapter 12 in the program: the keys of four voices. -/
open Go.RowKit Go.Joins

theorem infoKy : (Tryd.prog.info? 92).map (fun i => (i.zero, i.size, i.bytes)) = some (some (.agg #[.int .i64 0, .int .i64 0, .int .i64 0, .int .i64 0]), 4, 32) := by kernel_rfl
theorem builtKy : Tryd.prog.built 92 [] = some #[.int .i64 0, .int .i64 0, .int .i64 0, .int .i64 0] := by kernel_rfl
/-- The keys of the first k of four. -/
def kyU (a b c d : Int) (k : Nat) : List Value := [.int .i64 (if 0 < k then a else 0), .int .i64 (if 1 < k then b else 0), .int .i64 (if 2 < k then c else 0), .int .i64 (if 3 < k then d else 0)]

set_option maxHeartbeats 2000000 in
theorem ksI_no (va : Value) (l : List Pt) (w : World) (hs : SlAt w va l.length 3 (pcC l)) (hn : l.length ≤ 1048576) (hv : vo4 l = false) :
    Calls Tryd.prog 72 #[va] w fun e w' => e = .returned (.tuple #[.agg #[.int .i64 0, .int .i64 0, .int .i64 0, .int .i64 0], .bool false]) ∧ Below w.heap.size w w' := by
  have hO := Own.start w
  have hF := True.intro
  obtain ⟨A, c, rfl, nb, hA⟩ := hs.open
  have HA := hid hs
  clear hs
  obtain ⟨n, hnl⟩ : ∃ n, l.length = n := ⟨_, rfl⟩
  by_cases h4 : n = 4
  · subst h4
    have HV := hid (lvI_is (b := false) hnl (hnl ▸ HA.out) (by omega) (by
      rw [← Bool.not_eq_true] at hv ⊢
      intro h
      rw [Bool.and_eq_true] at h
      exact hv (vo4_iff.2 ⟨List.all_eq_true.1 h.1, hnl⟩)))
    rw [hnl] at nb hA HA ⊢
    clear hnl hv
    go_enter Tryd.func72, Tryd.ntmps72
    go_wp2_with (go_at_call 92; apply own_at hO; (repeat (first | (with_reducible exact hO) | (with_reducible apply Own.alloc) | (with_reducible apply Own.drew) | ((with_reducible apply Own.set_at); (focus (show _ ≤ _; omega))))); have hG := hF; clear hF; clear hO; intro hO; refine own_call hO (fun hB => HV.out _ hB) ?_; clear hO; intro w1 hO; (try simp only [World.size_alloc1, World.size_drew, Nat.reduceAdd] at hO); (try simp only [upd, updI, List.map_cons, List.map_nil, eq_self, if_true, if_false, reduceIte, Nat.add_eq_left, Nat.left_eq_add, Nat.reduceEqDiff, List.set_cons_zero, List.set_cons_succ, hG] at hO); clear hG; have hF := hO; (try simp only [Own, Item.Holds, apartI, CellsAt, Nat.reduceAdd, Nat.zero_add, List.mem_cons, List.not_mem_nil, or_false, forall_eq_or_imp, forall_eq, ne_eq, false_imp_iff, implies_true, and_true] at hF))
    apply own_end hO
    (repeat (first | (with_reducible exact hO) | (with_reducible apply Own.alloc) | (with_reducible apply Own.drew) | ((with_reducible apply Own.set_at); (focus (show _ ≤ _; omega)))))
    have hG := hF; clear hF; clear hO; intro hO
    refine own_ret (v := .tuple #[.agg #[.int .i64 0, .int .i64 0, .int .i64 0, .int .i64 0], .bool false]) hO ?_ rfl (fun hO => ⟨rfl, hO.base⟩)
    clear hO; intro w1 hO
    (try simp only [World.size_alloc1, World.size_drew, Nat.reduceAdd] at hO); (try simp only [upd, updI, List.map_cons, List.map_nil, eq_self, if_true, if_false, reduceIte, Nat.add_eq_left, Nat.left_eq_add, Nat.reduceEqDiff, List.set_cons_zero, List.set_cons_succ, hG] at hO); clear hG
    have hF := hO; (try simp only [Own, Item.Holds, apartI, CellsAt, Nat.reduceAdd, Nat.zero_add, List.mem_cons, List.not_mem_nil, or_false, forall_eq_or_imp, forall_eq, ne_eq, false_imp_iff, implies_true, and_true] at hF)
    simp [results, Tryd.results72, go_sem, hF]
  · have h4' : ((n : Int) == 4) = false := by simp; omega
    have h4'' : ¬ (n : Int) = 4 := by omega
    have h4''' : ¬ ((n : Int) = (4 : Int)) := h4''
    rw [hnl] at nb hA HA ⊢
    clear hnl hv h4
    go_enter Tryd.func72, Tryd.ntmps72
    go_wp2_with fail
    apply own_end hO
    (repeat (first | (with_reducible exact hO) | (with_reducible apply Own.alloc) | (with_reducible apply Own.drew) | ((with_reducible apply Own.set_at); (focus (show _ ≤ _; omega)))))
    have hG := hF; clear hF; clear hO; intro hO
    refine own_ret (v := .tuple #[.agg #[.int .i64 0, .int .i64 0, .int .i64 0, .int .i64 0], .bool false]) hO ?_ rfl (fun hO => ⟨rfl, hO.base⟩)
    clear hO; intro w1 hO
    (try simp only [World.size_alloc1, World.size_drew, Nat.reduceAdd] at hO); (try simp only [upd, updI, List.map_cons, List.map_nil, eq_self, if_true, if_false, reduceIte, Nat.add_eq_left, Nat.left_eq_add, Nat.reduceEqDiff, List.set_cons_zero, List.set_cons_succ, hG] at hO); clear hG
    have hF := hO; (try simp only [Own, Item.Holds, apartI, CellsAt, Nat.reduceAdd, Nat.zero_add, List.mem_cons, List.not_mem_nil, or_false, forall_eq_or_imp, forall_eq, ne_eq, false_imp_iff, implies_true, and_true] at hF)
    simp [results, Tryd.results72, go_sem, hF]

theorem keyI_k4 {l : List Pt} {i : Nat} {x : Pt} {z : Int} (h : l[i]? = some x) (hz : k4 l i = z) (W : World) (ht : TabH W) :
    Calls Tryd.prog 22 #[.agg #[.int .i64 x.s, .int .i64 x.a, .int .i64 x.o]] W fun e w' => e = .returned (.int .i64 z) ∧ Below W.heap.size W w' := by
  rw [k4_at h] at hz
  subst hz
  exact keyI_any x.s x.a x.o W ht

set_option maxHeartbeats 4000000 in
theorem ksI_yes (va : Value) (l : List Pt) (w : World) (hT : TabH w) (hs : SlAt w va l.length 3 (pcC l)) (hv : vo4 l = true) {a b c d : Int} (hk : K4 l a b c d) :
    Calls Tryd.prog 72 #[va] w fun e w' => e = .returned (.tuple #[.agg #[.int .i64 a, .int .i64 b, .int .i64 c, .int .i64 d], .bool true]) ∧ Below w.heap.size w w' := by
  have hO := Own.start w
  have hF := True.intro
  have HT := hid hT
  obtain ⟨hp, hnl⟩ := vo4_iff.1 hv
  obtain ⟨A, cA, rfl, nb, hA⟩ := hs.open
  have HA := hid hs
  have HV := hid (lvI_is (b := true) hnl (hnl ▸ hs) (by omega) (by
    rw [Bool.and_eq_true]
    exact ⟨List.all_eq_true.2 hp, rfl⟩))
  rw [hnl] at nb hA HA ⊢
  obtain ⟨bs, off, rfl, hc1, hc2, hbb⟩ := hA (by omega)
  obtain ⟨x0, hx0⟩ : ∃ x, l[0]? = some x := ⟨_, List.getElem?_eq_getElem (by omega)⟩
  obtain ⟨x1, hx1⟩ : ∃ x, l[1]? = some x := ⟨_, List.getElem?_eq_getElem (by omega)⟩
  obtain ⟨x2, hx2⟩ : ∃ x, l[2]? = some x := ⟨_, List.getElem?_eq_getElem (by omega)⟩
  obtain ⟨x3, hx3⟩ : ∃ x, l[3]? = some x := ⟨_, List.getElem?_eq_getElem (by omega)⟩
  have HX := hid (And.intro hx0 (And.intro hx1 (And.intro hx2 hx3)))
  have HK0 := hid (fun W hW => keyI_k4 hx0 (Option.some.inj (hk 0 (by omega))).symm W hW)
  have HK1 := hid (fun W hW => keyI_k4 hx1 (Option.some.inj (hk 1 (by omega))).symm W hW)
  have HK2 := hid (fun W hW => keyI_k4 hx2 (Option.some.inj (hk 2 (by omega))).symm W hW)
  have HK3 := hid (fun W hW => keyI_k4 hx3 (Option.some.inj (hk 3 (by omega))).symm W hW)
  clear hnl hv hT hp hs hA hk hx0 hx1 hx2 hx3
  go_enter Tryd.func72, Tryd.ntmps72
  go_wp2_with (go_at_call 92; apply own_at hO; (repeat (first | (with_reducible exact hO) | (with_reducible apply Own.alloc) | (with_reducible apply Own.drew) | ((with_reducible apply Own.set_at); (focus (show _ ≤ _; omega))))); have hG := hF; clear hF; clear hO; intro hO; refine own_call hO (fun hB => HV.out _ hB) ?_; clear hO; intro wa hO; (try simp only [World.size_alloc1, World.size_drew, Nat.reduceAdd] at hO); (try simp only [upd, updI, List.map_cons, List.map_nil, eq_self, if_true, if_false, reduceIte, Nat.add_eq_left, Nat.left_eq_add, Nat.reduceEqDiff, List.set_cons_zero, List.set_cons_succ, hG] at hO); clear hG; have hF := hO; (try simp only [Own, Item.Holds, apartI, CellsAt, Nat.reduceAdd, Nat.zero_add, List.mem_cons, List.not_mem_nil, or_false, forall_eq_or_imp, forall_eq, ne_eq, false_imp_iff, implies_true, and_true] at hF))
  go_loopw [18] (fun t wr => ∃ j : Nat, j ≤ 4 ∧ t = .int .i64 j ∧ Own w.heap.size (Below w.heap.size w) wr [.blk wa.heap.size (kyU a b c d j), .blk w.heap.size [.int .i64 0, .int .i64 0, .int .i64 0, .int .i64 0]]) (fun t _ => 4 - (intOf t).toNat)
  case atStart => exact ⟨0, by omega, rfl, show Own w.heap.size (Below w.heap.size w) _ [.blk wa.heap.size [.int .i64 0, .int .i64 0, .int .i64 0, .int .i64 0], .blk w.heap.size [.int .i64 0, .int .i64 0, .int .i64 0, .int .i64 0]] from by (repeat (first | (with_reducible exact hO) | (with_reducible apply Own.alloc) | (with_reducible apply Own.drew) | ((with_reducible apply Own.set_at); (focus (show _ ≤ _; omega)))))⟩
  case round =>
    clear hO hF
    obtain ⟨j, hj, rfl, hO⟩ := hrel
    rcases (show j = 0 ∨ j = 1 ∨ j = 2 ∨ j = 3 ∨ j = 4 by omega) with rfl | rfl | rfl | rfl | rfl
    case inr.inr.inr.inr =>
      rw [show kyU a b c d 4 = [.int .i64 a, .int .i64 b, .int .i64 c, .int .i64 d] from rfl] at hO
      have hF := True.intro
      have hF := hO; (try simp only [Own, Item.Holds, apartI, CellsAt, Nat.reduceAdd, Nat.zero_add, List.mem_cons, List.not_mem_nil, or_false, forall_eq_or_imp, forall_eq, ne_eq, false_imp_iff, implies_true, and_true] at hF)
      go_wp2_with fail
      apply own_end hO
      (repeat (first | (with_reducible exact hO) | (with_reducible apply Own.alloc) | (with_reducible apply Own.drew) | ((with_reducible apply Own.set_at); (focus (show _ ≤ _; omega)))))
      have hG := hF; clear hF; clear hO; intro hO
      refine own_ret (v := .tuple #[.agg #[.int .i64 a, .int .i64 b, .int .i64 c, .int .i64 d], .bool true]) hO ?_ rfl (fun hO => ⟨rfl, hO.base⟩)
      clear hO; intro w1 hO
      (try simp only [World.size_alloc1, World.size_drew, Nat.reduceAdd] at hO); (try simp only [upd, updI, List.map_cons, List.map_nil, eq_self, if_true, if_false, reduceIte, Nat.add_eq_left, Nat.left_eq_add, Nat.reduceEqDiff, List.set_cons_zero, List.set_cons_succ, hG] at hO); clear hG
      have hF := hO; (try simp only [Own, Item.Holds, apartI, CellsAt, Nat.reduceAdd, Nat.zero_add, List.mem_cons, List.not_mem_nil, or_false, forall_eq_or_imp, forall_eq, ne_eq, false_imp_iff, implies_true, and_true] at hF)
      simp [results, Tryd.results72, go_sem, hF]
    case inl =>
      rw [show kyU a b c d 0 = [.int .i64 0, .int .i64 0, .int .i64 0, .int .i64 0] from rfl] at hO
      obtain ⟨d0, d1, d2⟩ := ptAt (HA.out.below hO.base) HX.out.1
      simp at d0 d1 d2
      have hF := hO; (try simp only [Own, Item.Holds, apartI, CellsAt, Nat.reduceAdd, Nat.zero_add, List.mem_cons, List.not_mem_nil, or_false, forall_eq_or_imp, forall_eq, ne_eq, false_imp_iff, implies_true, and_true] at hF)
      go_wp2_with (go_at_call 22; apply own_at hO; (repeat (first | (with_reducible exact hO) | (with_reducible apply Own.alloc) | (with_reducible apply Own.drew) | ((with_reducible apply Own.set_at); (focus (show _ ≤ _; omega))))); have hG := hF; clear hF; clear hO; intro hO; refine own_call hO (fun hB => HK0.out _ (HT.out.below hB)) ?_; clear hO; intro w1 hO; (try simp only [World.size_alloc1, World.size_drew, Nat.reduceAdd] at hO); (try simp only [upd, updI, List.map_cons, List.map_nil, eq_self, if_true, if_false, reduceIte, Nat.add_eq_left, Nat.left_eq_add, Nat.reduceEqDiff, List.set_cons_zero, List.set_cons_succ, hG] at hO); clear hG; have hF := hO; (try simp only [Own, Item.Holds, apartI, CellsAt, Nat.reduceAdd, Nat.zero_add, List.mem_cons, List.not_mem_nil, or_false, forall_eq_or_imp, forall_eq, ne_eq, false_imp_iff, implies_true, and_true] at hF))
      go_roundw
      case rel => exact ⟨1, by omega, by go_num, Own.drop (show Own w.heap.size (Below w.heap.size w) _ [.blk wr.heap.size [.int .i64 x0.s, .int .i64 x0.a, .int .i64 x0.o], .blk wa.heap.size [.int .i64 a, .int .i64 0, .int .i64 0, .int .i64 0], .blk w.heap.size [.int .i64 0, .int .i64 0, .int .i64 0, .int .i64 0]] from by (apply Own.cast; (focus ((repeat (first | (with_reducible exact hO) | (with_reducible apply Own.alloc) | (with_reducible apply Own.drew) | ((with_reducible apply Own.set_at); (focus (show _ ≤ _; omega))))))); (first | rfl | (simp only [upd, updI, List.map_cons, List.map_nil, eq_self, if_true, if_false, reduceIte, Nat.add_eq_left, Nat.left_eq_add, Nat.reduceEqDiff, List.set_cons_zero, List.set_cons_succ, hF]; done) | (simp [upd, updI, List.map_cons, List.map_nil, eq_self, if_true, if_false, reduceIte, Nat.add_eq_left, Nat.left_eq_add, Nat.reduceEqDiff, List.set_cons_zero, List.set_cons_succ, hF]; done))))⟩
      case measure => simp [intOf]
    case inr.inl =>
      rw [show kyU a b c d 1 = [.int .i64 a, .int .i64 0, .int .i64 0, .int .i64 0] from rfl] at hO
      obtain ⟨d0, d1, d2⟩ := ptAt (HA.out.below hO.base) HX.out.2.1
      simp at d0 d1 d2
      have hF := hO; (try simp only [Own, Item.Holds, apartI, CellsAt, Nat.reduceAdd, Nat.zero_add, List.mem_cons, List.not_mem_nil, or_false, forall_eq_or_imp, forall_eq, ne_eq, false_imp_iff, implies_true, and_true] at hF)
      go_wp2_with (go_at_call 22; apply own_at hO; (repeat (first | (with_reducible exact hO) | (with_reducible apply Own.alloc) | (with_reducible apply Own.drew) | ((with_reducible apply Own.set_at); (focus (show _ ≤ _; omega))))); have hG := hF; clear hF; clear hO; intro hO; refine own_call hO (fun hB => HK1.out _ (HT.out.below hB)) ?_; clear hO; intro w1 hO; (try simp only [World.size_alloc1, World.size_drew, Nat.reduceAdd] at hO); (try simp only [upd, updI, List.map_cons, List.map_nil, eq_self, if_true, if_false, reduceIte, Nat.add_eq_left, Nat.left_eq_add, Nat.reduceEqDiff, List.set_cons_zero, List.set_cons_succ, hG] at hO); clear hG; have hF := hO; (try simp only [Own, Item.Holds, apartI, CellsAt, Nat.reduceAdd, Nat.zero_add, List.mem_cons, List.not_mem_nil, or_false, forall_eq_or_imp, forall_eq, ne_eq, false_imp_iff, implies_true, and_true] at hF))
      go_roundw
      case rel => exact ⟨2, by omega, by go_num, Own.drop (show Own w.heap.size (Below w.heap.size w) _ [.blk wr.heap.size [.int .i64 x1.s, .int .i64 x1.a, .int .i64 x1.o], .blk wa.heap.size [.int .i64 a, .int .i64 b, .int .i64 0, .int .i64 0], .blk w.heap.size [.int .i64 0, .int .i64 0, .int .i64 0, .int .i64 0]] from by (apply Own.cast; (focus ((repeat (first | (with_reducible exact hO) | (with_reducible apply Own.alloc) | (with_reducible apply Own.drew) | ((with_reducible apply Own.set_at); (focus (show _ ≤ _; omega))))))); (first | rfl | (simp only [upd, updI, List.map_cons, List.map_nil, eq_self, if_true, if_false, reduceIte, Nat.add_eq_left, Nat.left_eq_add, Nat.reduceEqDiff, List.set_cons_zero, List.set_cons_succ, hF]; done) | (simp [upd, updI, List.map_cons, List.map_nil, eq_self, if_true, if_false, reduceIte, Nat.add_eq_left, Nat.left_eq_add, Nat.reduceEqDiff, List.set_cons_zero, List.set_cons_succ, hF]; done))))⟩
      case measure => simp [intOf]
    case inr.inr.inl =>
      rw [show kyU a b c d 2 = [.int .i64 a, .int .i64 b, .int .i64 0, .int .i64 0] from rfl] at hO
      obtain ⟨d0, d1, d2⟩ := ptAt (HA.out.below hO.base) HX.out.2.2.1
      simp at d0 d1 d2
      have hF := hO; (try simp only [Own, Item.Holds, apartI, CellsAt, Nat.reduceAdd, Nat.zero_add, List.mem_cons, List.not_mem_nil, or_false, forall_eq_or_imp, forall_eq, ne_eq, false_imp_iff, implies_true, and_true] at hF)
      go_wp2_with (go_at_call 22; apply own_at hO; (repeat (first | (with_reducible exact hO) | (with_reducible apply Own.alloc) | (with_reducible apply Own.drew) | ((with_reducible apply Own.set_at); (focus (show _ ≤ _; omega))))); have hG := hF; clear hF; clear hO; intro hO; refine own_call hO (fun hB => HK2.out _ (HT.out.below hB)) ?_; clear hO; intro w1 hO; (try simp only [World.size_alloc1, World.size_drew, Nat.reduceAdd] at hO); (try simp only [upd, updI, List.map_cons, List.map_nil, eq_self, if_true, if_false, reduceIte, Nat.add_eq_left, Nat.left_eq_add, Nat.reduceEqDiff, List.set_cons_zero, List.set_cons_succ, hG] at hO); clear hG; have hF := hO; (try simp only [Own, Item.Holds, apartI, CellsAt, Nat.reduceAdd, Nat.zero_add, List.mem_cons, List.not_mem_nil, or_false, forall_eq_or_imp, forall_eq, ne_eq, false_imp_iff, implies_true, and_true] at hF))
      go_roundw
      case rel => exact ⟨3, by omega, by go_num, Own.drop (show Own w.heap.size (Below w.heap.size w) _ [.blk wr.heap.size [.int .i64 x2.s, .int .i64 x2.a, .int .i64 x2.o], .blk wa.heap.size [.int .i64 a, .int .i64 b, .int .i64 c, .int .i64 0], .blk w.heap.size [.int .i64 0, .int .i64 0, .int .i64 0, .int .i64 0]] from by (apply Own.cast; (focus ((repeat (first | (with_reducible exact hO) | (with_reducible apply Own.alloc) | (with_reducible apply Own.drew) | ((with_reducible apply Own.set_at); (focus (show _ ≤ _; omega))))))); (first | rfl | (simp only [upd, updI, List.map_cons, List.map_nil, eq_self, if_true, if_false, reduceIte, Nat.add_eq_left, Nat.left_eq_add, Nat.reduceEqDiff, List.set_cons_zero, List.set_cons_succ, hF]; done) | (simp [upd, updI, List.map_cons, List.map_nil, eq_self, if_true, if_false, reduceIte, Nat.add_eq_left, Nat.left_eq_add, Nat.reduceEqDiff, List.set_cons_zero, List.set_cons_succ, hF]; done))))⟩
      case measure => simp [intOf]
    case inr.inr.inr.inl =>
      rw [show kyU a b c d 3 = [.int .i64 a, .int .i64 b, .int .i64 c, .int .i64 0] from rfl] at hO
      obtain ⟨d0, d1, d2⟩ := ptAt (HA.out.below hO.base) HX.out.2.2.2
      simp at d0 d1 d2
      have hF := hO; (try simp only [Own, Item.Holds, apartI, CellsAt, Nat.reduceAdd, Nat.zero_add, List.mem_cons, List.not_mem_nil, or_false, forall_eq_or_imp, forall_eq, ne_eq, false_imp_iff, implies_true, and_true] at hF)
      go_wp2_with (go_at_call 22; apply own_at hO; (repeat (first | (with_reducible exact hO) | (with_reducible apply Own.alloc) | (with_reducible apply Own.drew) | ((with_reducible apply Own.set_at); (focus (show _ ≤ _; omega))))); have hG := hF; clear hF; clear hO; intro hO; refine own_call hO (fun hB => HK3.out _ (HT.out.below hB)) ?_; clear hO; intro w1 hO; (try simp only [World.size_alloc1, World.size_drew, Nat.reduceAdd] at hO); (try simp only [upd, updI, List.map_cons, List.map_nil, eq_self, if_true, if_false, reduceIte, Nat.add_eq_left, Nat.left_eq_add, Nat.reduceEqDiff, List.set_cons_zero, List.set_cons_succ, hG] at hO); clear hG; have hF := hO; (try simp only [Own, Item.Holds, apartI, CellsAt, Nat.reduceAdd, Nat.zero_add, List.mem_cons, List.not_mem_nil, or_false, forall_eq_or_imp, forall_eq, ne_eq, false_imp_iff, implies_true, and_true] at hF))
      go_roundw
      case rel => exact ⟨4, by omega, by go_num, Own.drop (show Own w.heap.size (Below w.heap.size w) _ [.blk wr.heap.size [.int .i64 x3.s, .int .i64 x3.a, .int .i64 x3.o], .blk wa.heap.size [.int .i64 a, .int .i64 b, .int .i64 c, .int .i64 d], .blk w.heap.size [.int .i64 0, .int .i64 0, .int .i64 0, .int .i64 0]] from by (apply Own.cast; (focus ((repeat (first | (with_reducible exact hO) | (with_reducible apply Own.alloc) | (with_reducible apply Own.drew) | ((with_reducible apply Own.set_at); (focus (show _ ≤ _; omega))))))); (first | rfl | (simp only [upd, updI, List.map_cons, List.map_nil, eq_self, if_true, if_false, reduceIte, Nat.add_eq_left, Nat.left_eq_add, Nat.reduceEqDiff, List.set_cons_zero, List.set_cons_succ, hF]; done) | (simp [upd, updI, List.map_cons, List.map_nil, eq_self, if_true, if_false, reduceIte, Nat.add_eq_left, Nat.left_eq_add, Nat.reduceEqDiff, List.set_cons_zero, List.set_cons_succ, hF]; done))))⟩
      case measure => simp [intOf]

set_option maxHeartbeats 4000000 in
theorem stI_any (va : Value) (l : List Pt) (w : World) (hT : TabH w) (hV : TabV w) (hs : SlAt w va l.length 3 (pcC l)) (hn : l.length ≤ 1048576) :
    Calls Tryd.prog 34 #[va] w fun e w' => e = .returned (.int .i64 (stZ l)) ∧ Below w.heap.size w w' := by
  have hO := Own.start w
  have hF := True.intro
  obtain ⟨A, cA, rfl, _, _⟩ := hs.open
  cases hv : vo4 l
  · have HE := hid (st_voices hv)
    have HK := hid (fun W (hW : Below w.heap.size w W) => ksI_no _ l W (hs.below hW) hn hv)
    obtain ⟨n, hnl⟩ : ∃ n, l.length = n := ⟨_, rfl⟩
    rw [hnl] at HK ⊢
    clear hT hV hs hn hv hnl
    go_enter Tryd.func34, Tryd.ntmps34
    go_wp2_with (go_at_call 72; apply own_at hO; (repeat (first | (with_reducible exact hO) | (with_reducible apply Own.alloc) | (with_reducible apply Own.drew) | ((with_reducible apply Own.set_at); (focus (show _ ≤ _; omega))))); have hG := hF; clear hF; clear hO; intro hO; refine own_call hO (fun hB => HK.out _ hB) ?_; clear hO; intro w1 hO; (try simp only [World.size_alloc1, World.size_drew, Nat.reduceAdd] at hO); (try simp only [upd, updI, List.map_cons, List.map_nil, eq_self, if_true, if_false, reduceIte, Nat.add_eq_left, Nat.left_eq_add, Nat.reduceEqDiff, List.set_cons_zero, List.set_cons_succ, hG] at hO); clear hG; have hF := hO; (try simp only [Own, Item.Holds, apartI, CellsAt, Nat.reduceAdd, Nat.zero_add, List.mem_cons, List.not_mem_nil, or_false, forall_eq_or_imp, forall_eq, ne_eq, false_imp_iff, implies_true, and_true] at hF))
    go_ret
    exact ⟨ret_int HE.out.symm, Own.base (by first | exact hO | (repeat (first | (with_reducible exact hO) | (with_reducible apply Own.alloc) | (with_reducible apply Own.drew) | ((with_reducible apply Own.set_at); (focus (show _ ≤ _; omega))))))⟩
  · obtain ⟨a, b, c, d, hk⟩ : ∃ a b c d, K4 l a b c d := ⟨_, _, _, _, k4_self l⟩
    have HK := hid (fun W (hW : Below w.heap.size w W) => ksI_yes _ l W (hT.below hW) (hs.below hW) hv hk)
    have HV := hid hv
    have HT := hid hV
    have H4 := hid hk
    obtain ⟨n, hnl⟩ : ∃ n, l.length = n := ⟨_, rfl⟩
    rw [hnl] at HK ⊢
    clear hT hV hs hn hv hnl hk
    by_cases h1 : crP l
    · have HE := hid (st_cross HV.out h1)
      have HC := hid (fun W => crI_is H4.out (x := true) (by simp [h1]) W)
      clear h1
      go_enter Tryd.func34, Tryd.ntmps34
      go_wp2_with (first | (go_at_call 72; apply own_at hO; (repeat (first | (with_reducible exact hO) | (with_reducible apply Own.alloc) | (with_reducible apply Own.drew) | ((with_reducible apply Own.set_at); (focus (show _ ≤ _; omega))))); have hG := hF; clear hF; clear hO; intro hO; refine own_call hO (fun hB => HK.out _ hB) ?_; clear hO; intro w1 hO; (try simp only [World.size_alloc1, World.size_drew, Nat.reduceAdd] at hO); (try simp only [upd, updI, List.map_cons, List.map_nil, eq_self, if_true, if_false, reduceIte, Nat.add_eq_left, Nat.left_eq_add, Nat.reduceEqDiff, List.set_cons_zero, List.set_cons_succ, hG] at hO); clear hG; have hF := hO; (try simp only [Own, Item.Holds, apartI, CellsAt, Nat.reduceAdd, Nat.zero_add, List.mem_cons, List.not_mem_nil, or_false, forall_eq_or_imp, forall_eq, ne_eq, false_imp_iff, implies_true, and_true] at hF)) | (go_at_call 73; apply own_at hO; (repeat (first | (with_reducible exact hO) | (with_reducible apply Own.alloc) | (with_reducible apply Own.drew) | ((with_reducible apply Own.set_at); (focus (show _ ≤ _; omega))))); have hG := hF; clear hF; clear hO; intro hO; refine own_call hO (fun hB => HC.out _) ?_; clear hO; intro w1 hO; (try simp only [World.size_alloc1, World.size_drew, Nat.reduceAdd] at hO); (try simp only [upd, updI, List.map_cons, List.map_nil, eq_self, if_true, if_false, reduceIte, Nat.add_eq_left, Nat.left_eq_add, Nat.reduceEqDiff, List.set_cons_zero, List.set_cons_succ, hG] at hO); clear hG; have hF := hO; (try simp only [Own, Item.Holds, apartI, CellsAt, Nat.reduceAdd, Nat.zero_add, List.mem_cons, List.not_mem_nil, or_false, forall_eq_or_imp, forall_eq, ne_eq, false_imp_iff, implies_true, and_true] at hF)))
      go_ret
      exact ⟨ret_int HE.out.symm, Own.base (by first | exact hO | (repeat (first | (with_reducible exact hO) | (with_reducible apply Own.alloc) | (with_reducible apply Own.drew) | ((with_reducible apply Own.set_at); (focus (show _ ≤ _; omega))))))⟩
    · have HC := hid (fun W => crI_is H4.out (x := false) (by simp [h1]) W)
      by_cases h2 : faP l
      · have HE := hid (st_far HV.out h1 h2)
        have HA := hid (fun W => faI_is H4.out HV.out (x := true) (by simp [h2]) W)
        clear h1 h2
        go_enter Tryd.func34, Tryd.ntmps34
        go_wp2_with (first | (go_at_call 72; apply own_at hO; (repeat (first | (with_reducible exact hO) | (with_reducible apply Own.alloc) | (with_reducible apply Own.drew) | ((with_reducible apply Own.set_at); (focus (show _ ≤ _; omega))))); have hG := hF; clear hF; clear hO; intro hO; refine own_call hO (fun hB => HK.out _ hB) ?_; clear hO; intro w1 hO; (try simp only [World.size_alloc1, World.size_drew, Nat.reduceAdd] at hO); (try simp only [upd, updI, List.map_cons, List.map_nil, eq_self, if_true, if_false, reduceIte, Nat.add_eq_left, Nat.left_eq_add, Nat.reduceEqDiff, List.set_cons_zero, List.set_cons_succ, hG] at hO); clear hG; have hF := hO; (try simp only [Own, Item.Holds, apartI, CellsAt, Nat.reduceAdd, Nat.zero_add, List.mem_cons, List.not_mem_nil, or_false, forall_eq_or_imp, forall_eq, ne_eq, false_imp_iff, implies_true, and_true] at hF)) | (go_at_call 73; apply own_at hO; (repeat (first | (with_reducible exact hO) | (with_reducible apply Own.alloc) | (with_reducible apply Own.drew) | ((with_reducible apply Own.set_at); (focus (show _ ≤ _; omega))))); have hG := hF; clear hF; clear hO; intro hO; refine own_call hO (fun hB => HC.out _) ?_; clear hO; intro w1 hO; (try simp only [World.size_alloc1, World.size_drew, Nat.reduceAdd] at hO); (try simp only [upd, updI, List.map_cons, List.map_nil, eq_self, if_true, if_false, reduceIte, Nat.add_eq_left, Nat.left_eq_add, Nat.reduceEqDiff, List.set_cons_zero, List.set_cons_succ, hG] at hO); clear hG; have hF := hO; (try simp only [Own, Item.Holds, apartI, CellsAt, Nat.reduceAdd, Nat.zero_add, List.mem_cons, List.not_mem_nil, or_false, forall_eq_or_imp, forall_eq, ne_eq, false_imp_iff, implies_true, and_true] at hF)) | (go_at_call 74; apply own_at hO; (repeat (first | (with_reducible exact hO) | (with_reducible apply Own.alloc) | (with_reducible apply Own.drew) | ((with_reducible apply Own.set_at); (focus (show _ ≤ _; omega))))); have hG := hF; clear hF; clear hO; intro hO; refine own_call hO (fun hB => HA.out _) ?_; clear hO; intro w1 hO; (try simp only [World.size_alloc1, World.size_drew, Nat.reduceAdd] at hO); (try simp only [upd, updI, List.map_cons, List.map_nil, eq_self, if_true, if_false, reduceIte, Nat.add_eq_left, Nat.left_eq_add, Nat.reduceEqDiff, List.set_cons_zero, List.set_cons_succ, hG] at hO); clear hG; have hF := hO; (try simp only [Own, Item.Holds, apartI, CellsAt, Nat.reduceAdd, Nat.zero_add, List.mem_cons, List.not_mem_nil, or_false, forall_eq_or_imp, forall_eq, ne_eq, false_imp_iff, implies_true, and_true] at hF)))
        go_ret
        exact ⟨ret_int HE.out.symm, Own.base (by first | exact hO | (repeat (first | (with_reducible exact hO) | (with_reducible apply Own.alloc) | (with_reducible apply Own.drew) | ((with_reducible apply Own.set_at); (focus (show _ ≤ _; omega))))))⟩
      · have HA := hid (fun W => faI_is H4.out HV.out (x := false) (by simp [h2]) W)
        obtain ⟨x, z, hx, hz⟩ : ∃ x z, (x = true ↔ raP l) ∧ stZ l = z ∧ z = if x = true then 4 else 0 := by
          by_cases h3 : raP l
          · exact ⟨true, 4, by simp [h3], st_range HV.out h1 h2 h3, rfl⟩
          · exact ⟨false, 0, by simp [h3], st_none HV.out h1 h2 h3, rfl⟩
        have HR := hid (fun W (hW : Below w.heap.size w W) => orI_is H4.out hx W (HT.out.below hW))
        have HE := hid hz.1
        obtain ⟨_, hz⟩ := hz
        clear h1 h2 hx
        cases x
        all_goals
          simp at hz
          subst hz
          go_enter Tryd.func34, Tryd.ntmps34
          go_wp2_with (first | (go_at_call 72; apply own_at hO; (repeat (first | (with_reducible exact hO) | (with_reducible apply Own.alloc) | (with_reducible apply Own.drew) | ((with_reducible apply Own.set_at); (focus (show _ ≤ _; omega))))); have hG := hF; clear hF; clear hO; intro hO; refine own_call hO (fun hB => HK.out _ hB) ?_; clear hO; intro w1 hO; (try simp only [World.size_alloc1, World.size_drew, Nat.reduceAdd] at hO); (try simp only [upd, updI, List.map_cons, List.map_nil, eq_self, if_true, if_false, reduceIte, Nat.add_eq_left, Nat.left_eq_add, Nat.reduceEqDiff, List.set_cons_zero, List.set_cons_succ, hG] at hO); clear hG; have hF := hO; (try simp only [Own, Item.Holds, apartI, CellsAt, Nat.reduceAdd, Nat.zero_add, List.mem_cons, List.not_mem_nil, or_false, forall_eq_or_imp, forall_eq, ne_eq, false_imp_iff, implies_true, and_true] at hF)) | (go_at_call 73; apply own_at hO; (repeat (first | (with_reducible exact hO) | (with_reducible apply Own.alloc) | (with_reducible apply Own.drew) | ((with_reducible apply Own.set_at); (focus (show _ ≤ _; omega))))); have hG := hF; clear hF; clear hO; intro hO; refine own_call hO (fun hB => HC.out _) ?_; clear hO; intro w1 hO; (try simp only [World.size_alloc1, World.size_drew, Nat.reduceAdd] at hO); (try simp only [upd, updI, List.map_cons, List.map_nil, eq_self, if_true, if_false, reduceIte, Nat.add_eq_left, Nat.left_eq_add, Nat.reduceEqDiff, List.set_cons_zero, List.set_cons_succ, hG] at hO); clear hG; have hF := hO; (try simp only [Own, Item.Holds, apartI, CellsAt, Nat.reduceAdd, Nat.zero_add, List.mem_cons, List.not_mem_nil, or_false, forall_eq_or_imp, forall_eq, ne_eq, false_imp_iff, implies_true, and_true] at hF)) | (go_at_call 74; apply own_at hO; (repeat (first | (with_reducible exact hO) | (with_reducible apply Own.alloc) | (with_reducible apply Own.drew) | ((with_reducible apply Own.set_at); (focus (show _ ≤ _; omega))))); have hG := hF; clear hF; clear hO; intro hO; refine own_call hO (fun hB => HA.out _) ?_; clear hO; intro w1 hO; (try simp only [World.size_alloc1, World.size_drew, Nat.reduceAdd] at hO); (try simp only [upd, updI, List.map_cons, List.map_nil, eq_self, if_true, if_false, reduceIte, Nat.add_eq_left, Nat.left_eq_add, Nat.reduceEqDiff, List.set_cons_zero, List.set_cons_succ, hG] at hO); clear hG; have hF := hO; (try simp only [Own, Item.Holds, apartI, CellsAt, Nat.reduceAdd, Nat.zero_add, List.mem_cons, List.not_mem_nil, or_false, forall_eq_or_imp, forall_eq, ne_eq, false_imp_iff, implies_true, and_true] at hF)) | (go_at_call 75; apply own_at hO; (repeat (first | (with_reducible exact hO) | (with_reducible apply Own.alloc) | (with_reducible apply Own.drew) | ((with_reducible apply Own.set_at); (focus (show _ ≤ _; omega))))); have hG := hF; clear hF; clear hO; intro hO; refine own_call hO (fun hB => HR.out _ hB) ?_; clear hO; intro w1 hO; (try simp only [World.size_alloc1, World.size_drew, Nat.reduceAdd] at hO); (try simp only [upd, updI, List.map_cons, List.map_nil, eq_self, if_true, if_false, reduceIte, Nat.add_eq_left, Nat.left_eq_add, Nat.reduceEqDiff, List.set_cons_zero, List.set_cons_succ, hG] at hO); clear hG; have hF := hO; (try simp only [Own, Item.Holds, apartI, CellsAt, Nat.reduceAdd, Nat.zero_add, List.mem_cons, List.not_mem_nil, or_false, forall_eq_or_imp, forall_eq, ne_eq, false_imp_iff, implies_true, and_true] at hF)))
          go_ret
          exact ⟨ret_int HE.out.symm, Own.base (by first | exact hO | (repeat (first | (with_reducible exact hO) | (with_reducible apply Own.alloc) | (with_reducible apply Own.drew) | ((with_reducible apply Own.set_at); (focus (show _ ≤ _; omega))))))⟩
theorem stI_C (w : World) (hT : TabH w) (hV : TabV w) : CSt 34 w := fun va l W hW hs hn _ => stI_any va l W (hT.below hW) (hV.below hW) hs hn

/- Chapter 12 in the program: the ways of four voices: MoveFault. -/
open Go.RowKit Go.Joins

/-- The direction of a voice. -/
def sgZ (f t : Int) : Int := if t < f then -1 else if f < t then 1 else 0
/-- The code of two voices: from p to q, and from r to s. -/
def prZ (p q r s : Int) : Int :=
  if 0 < (q - p) * (s - r) ∧ (r - p + 120) % 12 = (s - q + 120) % 12 then (if (r - p + 120) % 12 = 7 then 5 else if (r - p + 120) % 12 = 0 then 6 else 0) else 0
/-- The code of one voice. -/
def leZ (f t : Int) : Int := if 12 < t - f ∨ 12 < f - t then 7 else 0
/-- The one of two codes that counts. -/
def eaZ (a b : Int) : Int := if a = 0 then b else if b = 0 then a else if a ≤ b then a else b
/-- The code that counts among some. -/
def OKF (F : Int) (Q : Int → Prop) : Prop := 0 ≤ F ∧ (∀ c, Q c → c = 0 ∨ F ≠ 0 ∧ F ≤ c) ∧ (F = 0 ∨ Q F)
theorem OKF.start {Q : Int → Prop} (h : ∀ c, ¬ Q c) : OKF 0 Q := ⟨Int.le_refl _, fun c hc => (h c hc).elim, Or.inl rfl⟩
theorem OKF.step {F c : Int} {Q Q' : Int → Prop} (h : OKF F Q) (hc : 0 ≤ c) (hq : ∀ x, Q' x ↔ Q x ∨ x = c) : OKF (eaZ F c) Q' := by
  obtain ⟨h1, h2, h3⟩ := h
  unfold eaZ
  split
  · rename_i h0
    subst h0
    refine ⟨hc, fun x hx => ?_, Or.inr ((hq _).2 (Or.inr rfl))⟩
    rcases (hq x).1 hx with h | rfl
    · rcases h2 x h with h | h
      · exact Or.inl h
      · exact absurd rfl h.1
    · by_cases hz : x = 0
      · exact Or.inl hz
      · exact Or.inr ⟨hz, Int.le_refl _⟩
  · rename_i h0
    have h3' : Q F := h3.resolve_left h0
    split
    · rename_i h4
      subst h4
      refine ⟨h1, fun x hx => ?_, Or.inr ((hq _).2 (Or.inl h3'))⟩
      rcases (hq x).1 hx with h | rfl
      · exact h2 x h
      · exact Or.inl rfl
    · rename_i h4
      split
      · rename_i h5
        refine ⟨h1, fun x hx => ?_, Or.inr ((hq _).2 (Or.inl h3'))⟩
        rcases (hq x).1 hx with h | rfl
        · exact h2 x h
        · exact Or.inr ⟨h0, h5⟩
      · rename_i h5
        refine ⟨hc, fun x hx => ?_, Or.inr ((hq _).2 (Or.inr rfl))⟩
        rcases (hq x).1 hx with h | rfl
        · rcases h2 x h with h | h
          · exact Or.inl h
          · exact Or.inr ⟨h4, by omega⟩
        · exact Or.inr ⟨h4, Int.le_refl _⟩
theorem prZ_bd (p q r s : Int) : 0 ≤ prZ p q r s ∧ prZ p q r s ≤ 6 := by unfold prZ; (repeat' split) <;> omega
theorem leZ_bd (f t : Int) : 0 ≤ leZ f t ∧ leZ f t ≤ 7 := by unfold leZ; split <;> omega
/-- The code of two voices, of one, of two chords. -/
def parZ (a b : List Pt) (i j : Nat) : Int := prZ (k4 a i) (k4 b i) (k4 a j) (k4 b j)
def leaZ (a b : List Pt) (i : Nat) : Int := leZ (k4 a i) (k4 b i)
theorem par_5 {a b : List Pt} {i j : Nat} : parZ a b i j = 5 ↔ paP a b 7 i j := by
  unfold parZ prZ paP
  constructor
  · intro h
    split at h
    · rename_i h1
      split at h
      · rename_i h2
        exact ⟨h1.1, h2, h1.2 ▸ h2⟩
      · split at h <;> omega
    · omega
  · rintro ⟨h1, h2, h3⟩
    rw [if_pos ⟨h1, by rw [h2, h3]⟩, if_pos h2]
theorem par_6 {a b : List Pt} {i j : Nat} : parZ a b i j = 6 ↔ paP a b 0 i j := by
  unfold parZ prZ paP
  constructor
  · intro h
    split at h
    · rename_i h1
      split at h
      · omega
      · split at h
        · rename_i h2
          exact ⟨h1.1, h2, h1.2 ▸ h2⟩
        · omega
    · omega
  · rintro ⟨h1, h2, h3⟩
    rw [if_pos ⟨h1, by rw [h2, h3]⟩, if_neg (by omega), if_pos h2]
theorem lea_7 {a b : List Pt} {i : Nat} : leaZ a b i = 7 ↔ 12 < k4 b i - k4 a i ∨ 12 < k4 a i - k4 b i := by
  unfold leaZ leZ
  split <;> rename_i h <;> simp [h]
theorem par_is (a b : List Pt) (i j : Nat) : parZ a b i j = 0 ∨ parZ a b i j = 5 ∨ parZ a b i j = 6 := by unfold parZ prZ; (repeat' split) <;> simp
theorem lea_is (a b : List Pt) (i : Nat) : leaZ a b i = 0 ∨ leaZ a b i = 7 := by unfold leaZ leZ; split <;> simp
/-- The codes of the first j voices; those, and of voice j with the first m. -/
def QO (a b : List Pt) (j : Nat) (x : Int) : Prop := (∃ i k, i < k ∧ k < j ∧ x = parZ a b i k) ∨ ∃ i, i < j ∧ x = leaZ a b i
def QI (a b : List Pt) (j m : Nat) (x : Int) : Prop := QO a b j x ∨ ∃ i, i < m ∧ x = parZ a b i j
theorem QO_zero (a b : List Pt) (x : Int) : ¬ QO a b 0 x := by
  rintro (⟨i, k, _, h, _⟩ | ⟨i, h, _⟩) <;> omega
theorem QI_zero {a b : List Pt} {j : Nat} {F : Int} (h : OKF F (QO a b j)) : OKF F (QI a b j 0) := by
  have e : QI a b j 0 = QO a b j := funext fun x => propext ⟨fun h => h.resolve_right fun ⟨i, h, _⟩ => by omega, Or.inl⟩
  rw [e]; exact h
theorem QI_up (a b : List Pt) (j m : Nat) (x : Int) : QI a b j (m + 1) x ↔ QI a b j m x ∨ x = parZ a b m j := by
  constructor
  · rintro (h | ⟨i, hi, h⟩)
    · exact Or.inl (Or.inl h)
    · rcases (show i < m ∨ i = m by omega) with hm | rfl
      · exact Or.inl (Or.inr ⟨i, hm, h⟩)
      · exact Or.inr h
  · rintro ((h | ⟨i, hi, h⟩) | h)
    · exact Or.inl h
    · exact Or.inr ⟨i, by omega, h⟩
    · exact Or.inr ⟨m, by omega, h⟩
theorem QO_up (a b : List Pt) (j : Nat) (x : Int) : QO a b (j + 1) x ↔ QI a b j j x ∨ x = leaZ a b j := by
  constructor
  · rintro (⟨i, k, hi, hk, h⟩ | ⟨i, hi, h⟩)
    · rcases (show k < j ∨ k = j by omega) with hm | rfl
      · exact Or.inl (Or.inl (Or.inl ⟨i, k, hi, hm, h⟩))
      · exact Or.inl (Or.inr ⟨i, hi, h⟩)
    · rcases (show i < j ∨ i = j by omega) with hm | rfl
      · exact Or.inl (Or.inl (Or.inr ⟨i, hm, h⟩))
      · exact Or.inr h
  · rintro (((⟨i, k, hi, hk, h⟩ | ⟨i, hi, h⟩) | ⟨i, hi, h⟩) | h)
    · exact Or.inl ⟨i, k, hi, by omega, h⟩
    · exact Or.inr ⟨i, by omega, h⟩
    · exact Or.inl ⟨i, j, hi, by omega, h⟩
    · exact Or.inr ⟨j, by omega, h⟩
/-- The code that counts is the fault of the way. -/
theorem ok_mv {a b : List Pt} {F : Int} (h : vo4 a = true ∧ vo4 b = true) (hF : OKF F (QO a b 4)) : mvZ a b = F := by
  obtain ⟨h1, h2, h3⟩ := hF
  have e5 : ∀ i j, i < j → j < 4 → parZ a b i j = 0 ∨ F ≠ 0 ∧ F ≤ parZ a b i j := fun i j hi hj => h2 _ (Or.inl ⟨i, j, hi, hj, rfl⟩)
  have e7 : ∀ i, i < 4 → leaZ a b i = 0 ∨ F ≠ 0 ∧ F ≤ leaZ a b i := fun i hi => h2 _ (Or.inr ⟨i, hi, rfl⟩)
  have hv : F = 0 ∨ (∃ i j, i < j ∧ j < 4 ∧ F = parZ a b i j) ∨ ∃ i, i < 4 ∧ F = leaZ a b i := h3
  by_cases g5 : prP a b 7
  · rw [mv_fifths h g5]
    obtain ⟨i, j, hi, hj, hp⟩ := g5
    have := par_5.2 hp
    have := e5 i j hi hj
    rcases hv with h | ⟨i', j', _, _, h⟩ | ⟨i', _, h⟩
    · omega
    · have := par_is a b i' j'; omega
    · have := lea_is a b i'; omega
  · by_cases g6 : prP a b 0
    · rw [mv_octaves h g5 g6]
      obtain ⟨i, j, hi, hj, hp⟩ := g6
      have := par_6.2 hp
      have := e5 i j hi hj
      rcases hv with h | ⟨i', j', hi', hj', h⟩ | ⟨i', _, h⟩
      · omega
      · have : parZ a b i' j' ≠ 5 := fun hc => g5 ⟨i', j', hi', hj', par_5.1 hc⟩
        have := par_is a b i' j'; omega
      · have := lea_is a b i'; omega
    · have n5 : ∀ i j, i < j → j < 4 → parZ a b i j = 0 := fun i j hi hj => by
        have : parZ a b i j ≠ 5 := fun hc => g5 ⟨i, j, hi, hj, par_5.1 hc⟩
        have : parZ a b i j ≠ 6 := fun hc => g6 ⟨i, j, hi, hj, par_6.1 hc⟩
        have := par_is a b i j; omega
      by_cases g7 : leP a b
      · rw [mv_leap h g5 g6 g7]
        obtain ⟨i, hi, hp⟩ := g7
        have := lea_7.2 hp
        have := e7 i hi
        rcases hv with h | ⟨i', j', hi', hj', h⟩ | ⟨i', _, h⟩
        · omega
        · have := n5 i' j' hi' hj'; omega
        · have := lea_is a b i'; omega
      · rw [mv_none h g5 g6 g7]
        rcases hv with h | ⟨i', j', hi', hj', h⟩ | ⟨i', hi', h⟩
        · omega
        · have := n5 i' j' hi' hj'; omega
        · have : leaZ a b i' ≠ 7 := fun hc => g7 ⟨i', hi', lea_7.1 hc⟩
          have := lea_is a b i'; omega

/- The program. -/
set_option maxHeartbeats 400000 in
theorem nanI_any (x : Int) (w : World) : Calls Tryd.prog 135 #[.int .i64 x] w fun e w' => e = .returned (.bool false) ∧ w = w' := by
  go_enter Tryd.func135, Tryd.ntmps135
  go_wp2
  go_ret
  simp
set_option maxHeartbeats 800000 in
theorem cmpI_any (x y : Int) (w : World) : Calls Tryd.prog 126 #[.int .i64 x, .int .i64 y] w fun e w' => e = .returned (.int .i64 (sgZ y x)) ∧ w = w' := by
  unfold sgZ
  rcases (show x < y ∨ x = y ∨ y < x by omega) with h | h | h
  · have h2 : ¬ y < x := by omega
    rw [if_pos h]
    go_enter Tryd.func126, Tryd.ntmps126
    go_wp2_with (go_at_call 135; refine (nanI_any _ _).mono ?_; rintro e w1 ⟨rfl, rfl⟩)
    go_ret
    exact ⟨rfl, rfl⟩
  · subst h
    rw [if_neg (Int.lt_irrefl _), if_neg (Int.lt_irrefl _)]
    go_enter Tryd.func126, Tryd.ntmps126
    go_wp2_with (go_at_call 135; refine (nanI_any _ _).mono ?_; rintro e w1 ⟨rfl, rfl⟩)
    go_ret
    exact ⟨rfl, rfl⟩
  · have h2 : ¬ x < y := by omega
    rw [if_neg h2, if_pos h]
    go_enter Tryd.func126, Tryd.ntmps126
    go_wp2_with (go_at_call 135; refine (nanI_any _ _).mono ?_; rintro e w1 ⟨rfl, rfl⟩)
    go_ret
    exact ⟨rfl, rfl⟩
theorem cmpI_is {x y z : Int} (h : sgZ y x = z) (w : World) : Calls Tryd.prog 126 #[.int .i64 x, .int .i64 y] w fun e w' => e = .returned (.int .i64 z) ∧ Below w.heap.size w w' := by
  subst h; exact (cmpI_any x y w).mono fun e w' ⟨h1, h2⟩ => ⟨h1, h2 ▸ Below.refl _ _⟩

set_option maxHeartbeats 800000 in
theorem dirI_is {f t z : Int} (h : sgZ f t = z) (w : World) : Calls Tryd.prog 100 #[.agg #[.int .i64 f, .int .i64 t]] w fun e w' => e = .returned (.int .i64 z) ∧ Below w.heap.size w w' := by
  have hO := Own.start w
  have hF := True.intro
  have HC := hid (fun W => cmpI_is h W)
  clear h
  go_enter Tryd.func100, Tryd.ntmps100
  go_wp2_with (go_at_call 126; apply own_at hO; (repeat (first | (with_reducible exact hO) | (with_reducible apply Own.alloc) | (with_reducible apply Own.drew) | ((with_reducible apply Own.set_at); (focus (show _ ≤ _; omega))))); have hG := hF; clear hF; clear hO; intro hO; refine own_call hO (fun hB => HC.out _) ?_; clear hO; intro w1 hO; (try simp only [World.size_alloc1, World.size_drew, Nat.reduceAdd] at hO); (try simp only [upd, updI, List.map_cons, List.map_nil, eq_self, if_true, if_false, reduceIte, Nat.add_eq_left, Nat.left_eq_add, Nat.reduceEqDiff, List.set_cons_zero, List.set_cons_succ, hG] at hO); clear hG; have hF := hO; (try simp only [Own, Item.Holds, apartI, CellsAt, Nat.reduceAdd, Nat.zero_add, List.mem_cons, List.not_mem_nil, or_false, forall_eq_or_imp, forall_eq, ne_eq, false_imp_iff, implies_true, and_true] at hF))
  go_ret
  exact ⟨rfl, Own.base (by first | exact hO | (repeat (first | (with_reducible exact hO) | (with_reducible apply Own.alloc) | (with_reducible apply Own.drew) | ((with_reducible apply Own.set_at); (focus (show _ ≤ _; omega))))))⟩

set_option maxHeartbeats 800000 in
theorem eaI_is {a b z : Int} (ha : 0 ≤ a) (hb : 0 ≤ b) (h : eaZ a b = z) (w : World) : Calls Tryd.prog 77 #[.int .i64 a, .int .i64 b] w fun e w' => e = .returned (.int .i64 z) ∧ Below w.heap.size w w' := by
  have hO := Own.start w
  have hF := True.intro
  unfold eaZ at h
  by_cases h1 : a = 0
  · subst h1
    rw [if_pos rfl] at h
    subst h
    go_enter Tryd.func77, Tryd.ntmps77
    go_wp2
    all_goals
      go_ret
      exact ⟨ret_int (by omega), Own.base (by first | exact hO | (repeat (first | (with_reducible exact hO) | (with_reducible apply Own.alloc) | (with_reducible apply Own.drew) | ((with_reducible apply Own.set_at); (focus (show _ ≤ _; omega))))))⟩
  · have h1' : (a == 0) = false := by simp; omega
    rw [if_neg h1] at h
    by_cases h2 : b = 0
    · subst h2
      rw [if_pos rfl] at h
      subst h
      go_enter Tryd.func77, Tryd.ntmps77
      go_wp2
      all_goals
        go_ret
        exact ⟨ret_int (by omega), Own.base (by first | exact hO | (repeat (first | (with_reducible exact hO) | (with_reducible apply Own.alloc) | (with_reducible apply Own.drew) | ((with_reducible apply Own.set_at); (focus (show _ ≤ _; omega))))))⟩
    · have h2' : (b == 0) = false := by simp; omega
      rw [if_neg h2] at h
      have HE := hid (show min a b = z by rw [← h]; split <;> omega)
      clear h
      go_enter Tryd.func77, Tryd.ntmps77
      go_wp2
      all_goals
        go_ret
        exact ⟨ret_int (by have := HE.out; omega), Own.base (by first | exact hO | (repeat (first | (with_reducible exact hO) | (with_reducible apply Own.alloc) | (with_reducible apply Own.drew) | ((with_reducible apply Own.set_at); (focus (show _ ≤ _; omega))))))⟩

set_option maxHeartbeats 800000 in
theorem leI_is {f t z : Int} (p0 : -200 ≤ f) (p1 : f ≤ 200) (q0 : -200 ≤ t) (q1 : t ≤ 200) (h : leZ f t = z) (w : World) : Calls Tryd.prog 79 #[.agg #[.int .i64 f, .int .i64 t]] w fun e w' => e = .returned (.int .i64 z) ∧ Below w.heap.size w w' := by
  have hO := Own.start w
  have hF := True.intro
  have wd : IntKind.i64.wrap (t - f) = t - f := IntWalk.i64_in _ (by omega)
  have we : IntKind.i64.wrap (f - t) = f - t := IntWalk.i64_in _ (by omega)
  unfold leZ at h
  by_cases h1 : 12 < t - f ∨ 12 < f - t
  · rw [if_pos h1] at h
    subst h
    have h2 : 12 < max (t - f) (f - t) := by omega
    clear h1
    go_enter Tryd.func79, Tryd.ntmps79
    go_wp2
    all_goals
      go_ret
      exact ⟨rfl, Own.base (by first | exact hO | (repeat (first | (with_reducible exact hO) | (with_reducible apply Own.alloc) | (with_reducible apply Own.drew) | ((with_reducible apply Own.set_at); (focus (show _ ≤ _; omega))))))⟩
  · rw [if_neg h1] at h
    subst h
    have h2 : ¬ 12 < max (t - f) (f - t) := by omega
    have h3 : ¬ 12 < t - f := by omega
    have h4 : ¬ 12 < f - t := by omega
    clear h1
    go_enter Tryd.func79, Tryd.ntmps79
    go_wp2
    all_goals
      go_ret
      exact ⟨rfl, Own.base (by first | exact hO | (repeat (first | (with_reducible exact hO) | (with_reducible apply Own.alloc) | (with_reducible apply Own.drew) | ((with_reducible apply Own.set_at); (focus (show _ ≤ _; omega))))))⟩

theorem sg_pos {p q r s : Int} : 0 < (q - p) * (s - r) ↔ sgZ p q ≠ 0 ∧ sgZ p q = sgZ r s := by
  unfold sgZ
  rcases (show q < p ∨ q = p ∨ p < q by omega) with h | h | h <;> rcases (show s < r ∨ s = r ∨ r < s by omega) with g | g | g
  · have := Int.mul_pos_of_neg_of_neg (show q - p < 0 by omega) (show s - r < 0 by omega)
    simp [h, g, this]
  · subst g; simp [h]
  · have := Int.mul_neg_of_neg_of_pos (show q - p < 0 by omega) (show 0 < s - r by omega)
    have h1 : ¬ p < q := by omega
    have h2 : ¬ s < r := by omega
    simp [h, g, h1, h2]; omega
  · subst h; simp
  · subst h; simp
  · subst h; simp
  · have := Int.mul_neg_of_pos_of_neg (show 0 < q - p by omega) (show s - r < 0 by omega)
    have h1 : ¬ q < p := by omega
    have h2 : ¬ r < s := by omega
    simp [h, g, h1, h2]; omega
  · subst g
    simp [h]
  · have := Int.mul_pos (show 0 < q - p by omega) (show 0 < s - r by omega)
    have h1 : ¬ q < p := by omega
    have h2 : ¬ s < r := by omega
    simp [h, g, h1, h2, this]

set_option maxHeartbeats 4000000 in
theorem prI_is {p q r s z : Int} (p0 : -200 ≤ p) (p1 : p ≤ 200) (q0 : -200 ≤ q) (q1 : q ≤ 200) (r0 : -200 ≤ r) (r1 : r ≤ 200) (s0 : -200 ≤ s) (s1 : s ≤ 200) (h : prZ p q r s = z) (w : World) : Calls Tryd.prog 78 #[.agg #[.int .i64 p, .int .i64 q], .agg #[.int .i64 r, .int .i64 s]] w fun e w' => e = .returned (.int .i64 z) ∧ Below w.heap.size w w' := by
  have hO := Own.start w
  have hF := True.intro
  obtain ⟨d1, hd1⟩ : ∃ d, sgZ p q = d := ⟨_, rfl⟩
  obtain ⟨d2, hd2⟩ : ∃ d, sgZ r s = d := ⟨_, rfl⟩
  obtain ⟨x, hx⟩ : ∃ x, (r - p + 120) % 12 = x := ⟨_, rfl⟩
  obtain ⟨y, hy⟩ : ∃ y, (s - q + 120) % 12 = y := ⟨_, rfl⟩
  unfold prZ at h
  simp only [sg_pos, hd1, hd2, hx, hy] at h
  have HD1 := hid (fun W => dirI_is hd1 W)
  have HD2 := hid (fun W => dirI_is hd2 W)
  have HU1 := hid (fun W => huI_is p0 p1 r0 r1 hx W)
  have HU2 := hid (fun W => huI_is q0 q1 s0 s1 hy W)
  clear hd1 hd2 hx hy p0 p1 q0 q1 r0 r1 s0 s1
  by_cases h1 : d1 = 0
  · subst h1
    simp at h
    subst h
    go_enter Tryd.func78, Tryd.ntmps78
    go_wp2_with fail
    apply own_code hO
    (repeat (first | (with_reducible exact hO) | (with_reducible apply Own.alloc) | (with_reducible apply Own.drew) | ((with_reducible apply Own.set_at); (focus (show _ ≤ _; omega)))))
    have hG := hF; clear hF; clear hO; intro hO
    (try simp only [World.size_alloc1, World.size_drew, Nat.reduceAdd] at hO); (try simp only [upd, updI, List.map_cons, List.map_nil, eq_self, if_true, if_false, reduceIte, Nat.add_eq_left, Nat.left_eq_add, Nat.reduceEqDiff, List.set_cons_zero, List.set_cons_succ, hG] at hO); clear hG
    refine region_own (X := fun _ => True) [] (by kernel_rfl) (hO) (trivial) (by first | exact XStab.true | exact XStab.rd | exact XStab.rdIf) ?_
    clear hO
    refine Sim.sO (i := 0) (d := some 7) (v := ?_) (hy := ?_) (h := ?_)
    rotate_left
    · first | refine Or.inl ⟨by rfl, fun w hO => ?_⟩ | (refine Or.inr ⟨by rfl, ?_⟩; with_reducible rfl)
      first | done | (have hF := hO; (try simp only [Own, Item.Holds, apartI, CellsAt, Nat.reduceAdd, Nat.zero_add, List.mem_cons, List.not_mem_nil, or_false, forall_eq_or_imp, forall_eq, ne_eq, false_imp_iff, implies_true, and_true] at hF); refine Out.same ?_; go_simp; all_goals with_reducible rfl)
    refine Sim.sO (i := 1) (d := some 8) (v := ?_) (hy := ?_) (h := ?_)
    rotate_left
    · first | refine Or.inl ⟨by rfl, fun w hO => ?_⟩ | (refine Or.inr ⟨by rfl, ?_⟩; with_reducible rfl)
      first | done | (refine Out.call (f := 100) (args := ?_) ?_ ?_; rotate_left; (focus (go_simp; all_goals with_reducible rfl)); exact HD1.out _)
    refine Sim.sP (i := 2) (d := some 9) (h := ?_)
    refine Sim.sP (i := 3) (d := some 10) (h := ?_)
    refine Sim.sP (i := 4) (d := some 11) (h := ?_)
    refine Sim.sP (i := 5) (d := some 12) (h := ?_)
    refine Sim.sP (i := 6) (d := some 13) (h := ?_)
    refine Sim.sP (i := 7) (d := some 14) (h := ?_)
    refine Sim.sP (i := 8) (d := some 15) (h := ?_)
    refine Sim.sP (i := 9) (d := some 16) (h := ?_)
    refine Sim.done (by kernel_rfl) (fun w1 hO hX => ?_) _
    (try simp only [World.size_alloc1, World.size_drew, Nat.reduceAdd] at hO); (try simp only [upd, updI, List.map_cons, List.map_nil, eq_self, if_true, if_false, reduceIte, Nat.add_eq_left, Nat.left_eq_add, Nat.reduceEqDiff, List.set_cons_zero, List.set_cons_succ] at hO)
    have hF := hO; (try simp only [Own, Item.Holds, apartI, CellsAt, Nat.reduceAdd, Nat.zero_add, List.mem_cons, List.not_mem_nil, or_false, forall_eq_or_imp, forall_eq, ne_eq, false_imp_iff, implies_true, and_true] at hF)
    all_goals
      go_wp2
      go_ret
      exact ⟨rfl, Own.base (by first | exact hO | (repeat (first | (with_reducible exact hO) | (with_reducible apply Own.alloc) | (with_reducible apply Own.drew) | ((with_reducible apply Own.set_at); (focus (show _ ≤ _; omega))))))⟩
  · have h1' : (d1 == 0) = false := by simp; omega
    by_cases h2 : d1 = d2
    · subst h2
      by_cases h3 : x = y
      · subst h3
        have HE := hid (show (if x = 7 then 5 else if x = 0 then 6 else 0) = z by rw [if_pos ⟨⟨h1, rfl⟩, rfl⟩] at h; exact h)
        clear h
        go_enter Tryd.func78, Tryd.ntmps78
        go_wp2_with fail
        apply own_code hO
        (repeat (first | (with_reducible exact hO) | (with_reducible apply Own.alloc) | (with_reducible apply Own.drew) | ((with_reducible apply Own.set_at); (focus (show _ ≤ _; omega)))))
        have hG := hF; clear hF; clear hO; intro hO
        (try simp only [World.size_alloc1, World.size_drew, Nat.reduceAdd] at hO); (try simp only [upd, updI, List.map_cons, List.map_nil, eq_self, if_true, if_false, reduceIte, Nat.add_eq_left, Nat.left_eq_add, Nat.reduceEqDiff, List.set_cons_zero, List.set_cons_succ, hG] at hO); clear hG
        refine region_own (X := fun _ => True) [] (by kernel_rfl) (hO) (trivial) (by first | exact XStab.true | exact XStab.rd | exact XStab.rdIf) ?_
        clear hO
        refine Sim.sO (i := 0) (d := some 7) (v := ?_) (hy := ?_) (h := ?_)
        rotate_left
        · first | refine Or.inl ⟨by rfl, fun w hO => ?_⟩ | (refine Or.inr ⟨by rfl, ?_⟩; with_reducible rfl)
          first | done | (have hF := hO; (try simp only [Own, Item.Holds, apartI, CellsAt, Nat.reduceAdd, Nat.zero_add, List.mem_cons, List.not_mem_nil, or_false, forall_eq_or_imp, forall_eq, ne_eq, false_imp_iff, implies_true, and_true] at hF); refine Out.same ?_; go_simp; all_goals with_reducible rfl)
        refine Sim.sO (i := 1) (d := some 8) (v := ?_) (hy := ?_) (h := ?_)
        rotate_left
        · first | refine Or.inl ⟨by rfl, fun w hO => ?_⟩ | (refine Or.inr ⟨by rfl, ?_⟩; with_reducible rfl)
          first | done | (refine Out.call (f := 100) (args := ?_) ?_ ?_; rotate_left; (focus (go_simp; all_goals with_reducible rfl)); exact HD1.out _)
        refine Sim.sP (i := 2) (d := some 9) (h := ?_)
        refine Sim.sP (i := 3) (d := some 10) (h := ?_)
        refine Sim.sO (i := 4) (d := some 11) (v := ?_) (hy := ?_) (h := ?_)
        rotate_left
        · first | refine Or.inl ⟨by rfl, fun w hO => ?_⟩ | (refine Or.inr ⟨by rfl, ?_⟩; with_reducible rfl)
          first | done | (have hF := hO; (try simp only [Own, Item.Holds, apartI, CellsAt, Nat.reduceAdd, Nat.zero_add, List.mem_cons, List.not_mem_nil, or_false, forall_eq_or_imp, forall_eq, ne_eq, false_imp_iff, implies_true, and_true] at hF); refine Out.same ?_; go_simp; all_goals with_reducible rfl)
        refine Sim.sO (i := 5) (d := some 12) (v := ?_) (hy := ?_) (h := ?_)
        rotate_left
        · first | refine Or.inl ⟨by rfl, fun w hO => ?_⟩ | (refine Or.inr ⟨by rfl, ?_⟩; with_reducible rfl)
          first | done | (refine Out.call (f := 100) (args := ?_) ?_ ?_; rotate_left; (focus (go_simp; all_goals with_reducible rfl)); exact HD1.out _)
        refine Sim.sO (i := 6) (d := some 13) (v := ?_) (hy := ?_) (h := ?_)
        rotate_left
        · first | refine Or.inl ⟨by rfl, fun w hO => ?_⟩ | (refine Or.inr ⟨by rfl, ?_⟩; with_reducible rfl)
          first | done | (have hF := hO; (try simp only [Own, Item.Holds, apartI, CellsAt, Nat.reduceAdd, Nat.zero_add, List.mem_cons, List.not_mem_nil, or_false, forall_eq_or_imp, forall_eq, ne_eq, false_imp_iff, implies_true, and_true] at hF); refine Out.same ?_; go_simp; all_goals with_reducible rfl)
        refine Sim.sO (i := 7) (d := some 14) (v := ?_) (hy := ?_) (h := ?_)
        rotate_left
        · first | refine Or.inl ⟨by rfl, fun w hO => ?_⟩ | (refine Or.inr ⟨by rfl, ?_⟩; with_reducible rfl)
          first | done | (refine Out.call (f := 100) (args := ?_) ?_ ?_; rotate_left; (focus (go_simp; all_goals with_reducible rfl)); exact HD2.out _)
        refine Sim.sP (i := 8) (d := some 15) (h := ?_)
        refine Sim.sP (i := 9) (d := some 16) (h := ?_)
        refine Sim.done (by kernel_rfl) (fun w1 hO hX => ?_) _
        (try simp only [World.size_alloc1, World.size_drew, Nat.reduceAdd] at hO); (try simp only [upd, updI, List.map_cons, List.map_nil, eq_self, if_true, if_false, reduceIte, Nat.add_eq_left, Nat.left_eq_add, Nat.reduceEqDiff, List.set_cons_zero, List.set_cons_succ] at hO)
        have hF := hO; (try simp only [Own, Item.Holds, apartI, CellsAt, Nat.reduceAdd, Nat.zero_add, List.mem_cons, List.not_mem_nil, or_false, forall_eq_or_imp, forall_eq, ne_eq, false_imp_iff, implies_true, and_true] at hF)
        go_wp2_with fail
        apply own_code hO
        (repeat (first | (with_reducible exact hO) | (with_reducible apply Own.alloc) | (with_reducible apply Own.drew) | ((with_reducible apply Own.set_at); (focus (show _ ≤ _; omega)))))
        have hG := hF; clear hF; clear hO; intro hO
        (try simp only [World.size_alloc1, World.size_drew, Nat.reduceAdd] at hO); (try simp only [upd, updI, List.map_cons, List.map_nil, eq_self, if_true, if_false, reduceIte, Nat.add_eq_left, Nat.left_eq_add, Nat.reduceEqDiff, List.set_cons_zero, List.set_cons_succ, hG] at hO); clear hG
        refine region_own (X := fun _ => True) [] (by kernel_rfl) (hO) (trivial) (by first | exact XStab.true | exact XStab.rd | exact XStab.rdIf) ?_
        clear hO
        refine Sim.sP (i := 0) (d := some 17) (h := ?_)
        refine Sim.sO (i := 1) (d := some 18) (v := ?_) (hy := ?_) (h := ?_)
        rotate_left
        · first | refine Or.inl ⟨by rfl, fun w hO => ?_⟩ | (refine Or.inr ⟨by rfl, ?_⟩; with_reducible rfl)
          first | done | (have hF := hO; (try simp only [Own, Item.Holds, apartI, CellsAt, Nat.reduceAdd, Nat.zero_add, List.mem_cons, List.not_mem_nil, or_false, forall_eq_or_imp, forall_eq, ne_eq, false_imp_iff, implies_true, and_true] at hF); refine Out.same ?_; go_simp; all_goals with_reducible rfl)
        refine Sim.sP (i := 2) (d := some 19) (h := ?_)
        refine Sim.sO (i := 3) (d := some 20) (v := ?_) (hy := ?_) (h := ?_)
        rotate_left
        · first | refine Or.inl ⟨by rfl, fun w hO => ?_⟩ | (refine Or.inr ⟨by rfl, ?_⟩; with_reducible rfl)
          first | done | (have hF := hO; (try simp only [Own, Item.Holds, apartI, CellsAt, Nat.reduceAdd, Nat.zero_add, List.mem_cons, List.not_mem_nil, or_false, forall_eq_or_imp, forall_eq, ne_eq, false_imp_iff, implies_true, and_true] at hF); refine Out.same ?_; go_simp; all_goals with_reducible rfl)
        refine Sim.sO (i := 4) (d := some 21) (v := ?_) (hy := ?_) (h := ?_)
        rotate_left
        · first | refine Or.inl ⟨by rfl, fun w hO => ?_⟩ | (refine Or.inr ⟨by rfl, ?_⟩; with_reducible rfl)
          first | done | (refine Out.call (f := 101) (args := ?_) ?_ ?_; rotate_left; (focus (go_simp; all_goals with_reducible rfl)); exact HU1.out _)
        refine Sim.sP (i := 5) (d := some 22) (h := ?_)
        refine Sim.sO (i := 6) (d := some 23) (v := ?_) (hy := ?_) (h := ?_)
        rotate_left
        · first | refine Or.inl ⟨by rfl, fun w hO => ?_⟩ | (refine Or.inr ⟨by rfl, ?_⟩; with_reducible rfl)
          first | done | (have hF := hO; (try simp only [Own, Item.Holds, apartI, CellsAt, Nat.reduceAdd, Nat.zero_add, List.mem_cons, List.not_mem_nil, or_false, forall_eq_or_imp, forall_eq, ne_eq, false_imp_iff, implies_true, and_true] at hF); refine Out.same ?_; go_simp; all_goals with_reducible rfl)
        refine Sim.sP (i := 7) (d := some 24) (h := ?_)
        refine Sim.sO (i := 8) (d := some 25) (v := ?_) (hy := ?_) (h := ?_)
        rotate_left
        · first | refine Or.inl ⟨by rfl, fun w hO => ?_⟩ | (refine Or.inr ⟨by rfl, ?_⟩; with_reducible rfl)
          first | done | (have hF := hO; (try simp only [Own, Item.Holds, apartI, CellsAt, Nat.reduceAdd, Nat.zero_add, List.mem_cons, List.not_mem_nil, or_false, forall_eq_or_imp, forall_eq, ne_eq, false_imp_iff, implies_true, and_true] at hF); refine Out.same ?_; go_simp; all_goals with_reducible rfl)
        refine Sim.sO (i := 9) (d := some 26) (v := ?_) (hy := ?_) (h := ?_)
        rotate_left
        · first | refine Or.inl ⟨by rfl, fun w hO => ?_⟩ | (refine Or.inr ⟨by rfl, ?_⟩; with_reducible rfl)
          first | done | (refine Out.call (f := 101) (args := ?_) ?_ ?_; rotate_left; (focus (go_simp; all_goals with_reducible rfl)); exact HU2.out _)
        refine Sim.sP (i := 10) (d := some 5) (h := ?_)
        refine Sim.sP (i := 11) (d := some 6) (h := ?_)
        refine Sim.done (by kernel_rfl) (fun w1 hO hX => ?_) _
        (try simp only [World.size_alloc1, World.size_drew, Nat.reduceAdd] at hO); (try simp only [upd, updI, List.map_cons, List.map_nil, eq_self, if_true, if_false, reduceIte, Nat.add_eq_left, Nat.left_eq_add, Nat.reduceEqDiff, List.set_cons_zero, List.set_cons_succ] at hO)
        have hF := hO; (try simp only [Own, Item.Holds, apartI, CellsAt, Nat.reduceAdd, Nat.zero_add, List.mem_cons, List.not_mem_nil, or_false, forall_eq_or_imp, forall_eq, ne_eq, false_imp_iff, implies_true, and_true] at hF)
        all_goals
          by_cases h7 : x = 7
          · subst h7
            go_wp2
            go_ret
            exact ⟨ret_int (by simpa using HE.out), Own.base (by first | exact hO | (repeat (first | (with_reducible exact hO) | (with_reducible apply Own.alloc) | (with_reducible apply Own.drew) | ((with_reducible apply Own.set_at); (focus (show _ ≤ _; omega))))))⟩
          · have h7' : (x == 7) = false := by simp; omega
            by_cases h0 : x = 0
            · subst h0
              go_wp2
              go_ret
              exact ⟨ret_int (by simpa using HE.out), Own.base (by first | exact hO | (repeat (first | (with_reducible exact hO) | (with_reducible apply Own.alloc) | (with_reducible apply Own.drew) | ((with_reducible apply Own.set_at); (focus (show _ ≤ _; omega))))))⟩
            · have h0' : (x == 0) = false := by simp; omega
              have HE2 := hid (show 0 = z by have := HE.out; rwa [if_neg h7, if_neg h0] at this)
              go_wp2
              go_ret
              exact ⟨ret_int HE2.out, Own.base (by first | exact hO | (repeat (first | (with_reducible exact hO) | (with_reducible apply Own.alloc) | (with_reducible apply Own.drew) | ((with_reducible apply Own.set_at); (focus (show _ ≤ _; omega))))))⟩
      · have h3' : (x == y) = false := by simp; omega
        rw [if_neg (fun hc => h3 hc.2)] at h
        subst h
        go_enter Tryd.func78, Tryd.ntmps78
        go_wp2_with fail
        apply own_code hO
        (repeat (first | (with_reducible exact hO) | (with_reducible apply Own.alloc) | (with_reducible apply Own.drew) | ((with_reducible apply Own.set_at); (focus (show _ ≤ _; omega)))))
        have hG := hF; clear hF; clear hO; intro hO
        (try simp only [World.size_alloc1, World.size_drew, Nat.reduceAdd] at hO); (try simp only [upd, updI, List.map_cons, List.map_nil, eq_self, if_true, if_false, reduceIte, Nat.add_eq_left, Nat.left_eq_add, Nat.reduceEqDiff, List.set_cons_zero, List.set_cons_succ, hG] at hO); clear hG
        refine region_own (X := fun _ => True) [] (by kernel_rfl) (hO) (trivial) (by first | exact XStab.true | exact XStab.rd | exact XStab.rdIf) ?_
        clear hO
        refine Sim.sO (i := 0) (d := some 7) (v := ?_) (hy := ?_) (h := ?_)
        rotate_left
        · first | refine Or.inl ⟨by rfl, fun w hO => ?_⟩ | (refine Or.inr ⟨by rfl, ?_⟩; with_reducible rfl)
          first | done | (have hF := hO; (try simp only [Own, Item.Holds, apartI, CellsAt, Nat.reduceAdd, Nat.zero_add, List.mem_cons, List.not_mem_nil, or_false, forall_eq_or_imp, forall_eq, ne_eq, false_imp_iff, implies_true, and_true] at hF); refine Out.same ?_; go_simp; all_goals with_reducible rfl)
        refine Sim.sO (i := 1) (d := some 8) (v := ?_) (hy := ?_) (h := ?_)
        rotate_left
        · first | refine Or.inl ⟨by rfl, fun w hO => ?_⟩ | (refine Or.inr ⟨by rfl, ?_⟩; with_reducible rfl)
          first | done | (refine Out.call (f := 100) (args := ?_) ?_ ?_; rotate_left; (focus (go_simp; all_goals with_reducible rfl)); exact HD1.out _)
        refine Sim.sP (i := 2) (d := some 9) (h := ?_)
        refine Sim.sP (i := 3) (d := some 10) (h := ?_)
        refine Sim.sO (i := 4) (d := some 11) (v := ?_) (hy := ?_) (h := ?_)
        rotate_left
        · first | refine Or.inl ⟨by rfl, fun w hO => ?_⟩ | (refine Or.inr ⟨by rfl, ?_⟩; with_reducible rfl)
          first | done | (have hF := hO; (try simp only [Own, Item.Holds, apartI, CellsAt, Nat.reduceAdd, Nat.zero_add, List.mem_cons, List.not_mem_nil, or_false, forall_eq_or_imp, forall_eq, ne_eq, false_imp_iff, implies_true, and_true] at hF); refine Out.same ?_; go_simp; all_goals with_reducible rfl)
        refine Sim.sO (i := 5) (d := some 12) (v := ?_) (hy := ?_) (h := ?_)
        rotate_left
        · first | refine Or.inl ⟨by rfl, fun w hO => ?_⟩ | (refine Or.inr ⟨by rfl, ?_⟩; with_reducible rfl)
          first | done | (refine Out.call (f := 100) (args := ?_) ?_ ?_; rotate_left; (focus (go_simp; all_goals with_reducible rfl)); exact HD1.out _)
        refine Sim.sO (i := 6) (d := some 13) (v := ?_) (hy := ?_) (h := ?_)
        rotate_left
        · first | refine Or.inl ⟨by rfl, fun w hO => ?_⟩ | (refine Or.inr ⟨by rfl, ?_⟩; with_reducible rfl)
          first | done | (have hF := hO; (try simp only [Own, Item.Holds, apartI, CellsAt, Nat.reduceAdd, Nat.zero_add, List.mem_cons, List.not_mem_nil, or_false, forall_eq_or_imp, forall_eq, ne_eq, false_imp_iff, implies_true, and_true] at hF); refine Out.same ?_; go_simp; all_goals with_reducible rfl)
        refine Sim.sO (i := 7) (d := some 14) (v := ?_) (hy := ?_) (h := ?_)
        rotate_left
        · first | refine Or.inl ⟨by rfl, fun w hO => ?_⟩ | (refine Or.inr ⟨by rfl, ?_⟩; with_reducible rfl)
          first | done | (refine Out.call (f := 100) (args := ?_) ?_ ?_; rotate_left; (focus (go_simp; all_goals with_reducible rfl)); exact HD2.out _)
        refine Sim.sP (i := 8) (d := some 15) (h := ?_)
        refine Sim.sP (i := 9) (d := some 16) (h := ?_)
        refine Sim.done (by kernel_rfl) (fun w1 hO hX => ?_) _
        (try simp only [World.size_alloc1, World.size_drew, Nat.reduceAdd] at hO); (try simp only [upd, updI, List.map_cons, List.map_nil, eq_self, if_true, if_false, reduceIte, Nat.add_eq_left, Nat.left_eq_add, Nat.reduceEqDiff, List.set_cons_zero, List.set_cons_succ] at hO)
        have hF := hO; (try simp only [Own, Item.Holds, apartI, CellsAt, Nat.reduceAdd, Nat.zero_add, List.mem_cons, List.not_mem_nil, or_false, forall_eq_or_imp, forall_eq, ne_eq, false_imp_iff, implies_true, and_true] at hF)
        go_wp2_with fail
        apply own_code hO
        (repeat (first | (with_reducible exact hO) | (with_reducible apply Own.alloc) | (with_reducible apply Own.drew) | ((with_reducible apply Own.set_at); (focus (show _ ≤ _; omega)))))
        have hG := hF; clear hF; clear hO; intro hO
        (try simp only [World.size_alloc1, World.size_drew, Nat.reduceAdd] at hO); (try simp only [upd, updI, List.map_cons, List.map_nil, eq_self, if_true, if_false, reduceIte, Nat.add_eq_left, Nat.left_eq_add, Nat.reduceEqDiff, List.set_cons_zero, List.set_cons_succ, hG] at hO); clear hG
        refine region_own (X := fun _ => True) [] (by kernel_rfl) (hO) (trivial) (by first | exact XStab.true | exact XStab.rd | exact XStab.rdIf) ?_
        clear hO
        refine Sim.sP (i := 0) (d := some 17) (h := ?_)
        refine Sim.sO (i := 1) (d := some 18) (v := ?_) (hy := ?_) (h := ?_)
        rotate_left
        · first | refine Or.inl ⟨by rfl, fun w hO => ?_⟩ | (refine Or.inr ⟨by rfl, ?_⟩; with_reducible rfl)
          first | done | (have hF := hO; (try simp only [Own, Item.Holds, apartI, CellsAt, Nat.reduceAdd, Nat.zero_add, List.mem_cons, List.not_mem_nil, or_false, forall_eq_or_imp, forall_eq, ne_eq, false_imp_iff, implies_true, and_true] at hF); refine Out.same ?_; go_simp; all_goals with_reducible rfl)
        refine Sim.sP (i := 2) (d := some 19) (h := ?_)
        refine Sim.sO (i := 3) (d := some 20) (v := ?_) (hy := ?_) (h := ?_)
        rotate_left
        · first | refine Or.inl ⟨by rfl, fun w hO => ?_⟩ | (refine Or.inr ⟨by rfl, ?_⟩; with_reducible rfl)
          first | done | (have hF := hO; (try simp only [Own, Item.Holds, apartI, CellsAt, Nat.reduceAdd, Nat.zero_add, List.mem_cons, List.not_mem_nil, or_false, forall_eq_or_imp, forall_eq, ne_eq, false_imp_iff, implies_true, and_true] at hF); refine Out.same ?_; go_simp; all_goals with_reducible rfl)
        refine Sim.sO (i := 4) (d := some 21) (v := ?_) (hy := ?_) (h := ?_)
        rotate_left
        · first | refine Or.inl ⟨by rfl, fun w hO => ?_⟩ | (refine Or.inr ⟨by rfl, ?_⟩; with_reducible rfl)
          first | done | (refine Out.call (f := 101) (args := ?_) ?_ ?_; rotate_left; (focus (go_simp; all_goals with_reducible rfl)); exact HU1.out _)
        refine Sim.sP (i := 5) (d := some 22) (h := ?_)
        refine Sim.sO (i := 6) (d := some 23) (v := ?_) (hy := ?_) (h := ?_)
        rotate_left
        · first | refine Or.inl ⟨by rfl, fun w hO => ?_⟩ | (refine Or.inr ⟨by rfl, ?_⟩; with_reducible rfl)
          first | done | (have hF := hO; (try simp only [Own, Item.Holds, apartI, CellsAt, Nat.reduceAdd, Nat.zero_add, List.mem_cons, List.not_mem_nil, or_false, forall_eq_or_imp, forall_eq, ne_eq, false_imp_iff, implies_true, and_true] at hF); refine Out.same ?_; go_simp; all_goals with_reducible rfl)
        refine Sim.sP (i := 7) (d := some 24) (h := ?_)
        refine Sim.sO (i := 8) (d := some 25) (v := ?_) (hy := ?_) (h := ?_)
        rotate_left
        · first | refine Or.inl ⟨by rfl, fun w hO => ?_⟩ | (refine Or.inr ⟨by rfl, ?_⟩; with_reducible rfl)
          first | done | (have hF := hO; (try simp only [Own, Item.Holds, apartI, CellsAt, Nat.reduceAdd, Nat.zero_add, List.mem_cons, List.not_mem_nil, or_false, forall_eq_or_imp, forall_eq, ne_eq, false_imp_iff, implies_true, and_true] at hF); refine Out.same ?_; go_simp; all_goals with_reducible rfl)
        refine Sim.sO (i := 9) (d := some 26) (v := ?_) (hy := ?_) (h := ?_)
        rotate_left
        · first | refine Or.inl ⟨by rfl, fun w hO => ?_⟩ | (refine Or.inr ⟨by rfl, ?_⟩; with_reducible rfl)
          first | done | (refine Out.call (f := 101) (args := ?_) ?_ ?_; rotate_left; (focus (go_simp; all_goals with_reducible rfl)); exact HU2.out _)
        refine Sim.sP (i := 10) (d := some 5) (h := ?_)
        refine Sim.sP (i := 11) (d := some 6) (h := ?_)
        refine Sim.done (by kernel_rfl) (fun w1 hO hX => ?_) _
        (try simp only [World.size_alloc1, World.size_drew, Nat.reduceAdd] at hO); (try simp only [upd, updI, List.map_cons, List.map_nil, eq_self, if_true, if_false, reduceIte, Nat.add_eq_left, Nat.left_eq_add, Nat.reduceEqDiff, List.set_cons_zero, List.set_cons_succ] at hO)
        have hF := hO; (try simp only [Own, Item.Holds, apartI, CellsAt, Nat.reduceAdd, Nat.zero_add, List.mem_cons, List.not_mem_nil, or_false, forall_eq_or_imp, forall_eq, ne_eq, false_imp_iff, implies_true, and_true] at hF)
        all_goals
          go_wp2
          go_ret
          exact ⟨rfl, Own.base (by first | exact hO | (repeat (first | (with_reducible exact hO) | (with_reducible apply Own.alloc) | (with_reducible apply Own.drew) | ((with_reducible apply Own.set_at); (focus (show _ ≤ _; omega))))))⟩
    · have h2' : (d1 == d2) = false := by simp; omega
      rw [if_neg (fun hc => h2 hc.1.2)] at h
      subst h
      go_enter Tryd.func78, Tryd.ntmps78
      go_wp2_with fail
      apply own_code hO
      (repeat (first | (with_reducible exact hO) | (with_reducible apply Own.alloc) | (with_reducible apply Own.drew) | ((with_reducible apply Own.set_at); (focus (show _ ≤ _; omega)))))
      have hG := hF; clear hF; clear hO; intro hO
      (try simp only [World.size_alloc1, World.size_drew, Nat.reduceAdd] at hO); (try simp only [upd, updI, List.map_cons, List.map_nil, eq_self, if_true, if_false, reduceIte, Nat.add_eq_left, Nat.left_eq_add, Nat.reduceEqDiff, List.set_cons_zero, List.set_cons_succ, hG] at hO); clear hG
      refine region_own (X := fun _ => True) [] (by kernel_rfl) (hO) (trivial) (by first | exact XStab.true | exact XStab.rd | exact XStab.rdIf) ?_
      clear hO
      refine Sim.sO (i := 0) (d := some 7) (v := ?_) (hy := ?_) (h := ?_)
      rotate_left
      · first | refine Or.inl ⟨by rfl, fun w hO => ?_⟩ | (refine Or.inr ⟨by rfl, ?_⟩; with_reducible rfl)
        first | done | (have hF := hO; (try simp only [Own, Item.Holds, apartI, CellsAt, Nat.reduceAdd, Nat.zero_add, List.mem_cons, List.not_mem_nil, or_false, forall_eq_or_imp, forall_eq, ne_eq, false_imp_iff, implies_true, and_true] at hF); refine Out.same ?_; go_simp; all_goals with_reducible rfl)
      refine Sim.sO (i := 1) (d := some 8) (v := ?_) (hy := ?_) (h := ?_)
      rotate_left
      · first | refine Or.inl ⟨by rfl, fun w hO => ?_⟩ | (refine Or.inr ⟨by rfl, ?_⟩; with_reducible rfl)
        first | done | (refine Out.call (f := 100) (args := ?_) ?_ ?_; rotate_left; (focus (go_simp; all_goals with_reducible rfl)); exact HD1.out _)
      refine Sim.sP (i := 2) (d := some 9) (h := ?_)
      refine Sim.sP (i := 3) (d := some 10) (h := ?_)
      refine Sim.sO (i := 4) (d := some 11) (v := ?_) (hy := ?_) (h := ?_)
      rotate_left
      · first | refine Or.inl ⟨by rfl, fun w hO => ?_⟩ | (refine Or.inr ⟨by rfl, ?_⟩; with_reducible rfl)
        first | done | (have hF := hO; (try simp only [Own, Item.Holds, apartI, CellsAt, Nat.reduceAdd, Nat.zero_add, List.mem_cons, List.not_mem_nil, or_false, forall_eq_or_imp, forall_eq, ne_eq, false_imp_iff, implies_true, and_true] at hF); refine Out.same ?_; go_simp; all_goals with_reducible rfl)
      refine Sim.sO (i := 5) (d := some 12) (v := ?_) (hy := ?_) (h := ?_)
      rotate_left
      · first | refine Or.inl ⟨by rfl, fun w hO => ?_⟩ | (refine Or.inr ⟨by rfl, ?_⟩; with_reducible rfl)
        first | done | (refine Out.call (f := 100) (args := ?_) ?_ ?_; rotate_left; (focus (go_simp; all_goals with_reducible rfl)); exact HD1.out _)
      refine Sim.sO (i := 6) (d := some 13) (v := ?_) (hy := ?_) (h := ?_)
      rotate_left
      · first | refine Or.inl ⟨by rfl, fun w hO => ?_⟩ | (refine Or.inr ⟨by rfl, ?_⟩; with_reducible rfl)
        first | done | (have hF := hO; (try simp only [Own, Item.Holds, apartI, CellsAt, Nat.reduceAdd, Nat.zero_add, List.mem_cons, List.not_mem_nil, or_false, forall_eq_or_imp, forall_eq, ne_eq, false_imp_iff, implies_true, and_true] at hF); refine Out.same ?_; go_simp; all_goals with_reducible rfl)
      refine Sim.sO (i := 7) (d := some 14) (v := ?_) (hy := ?_) (h := ?_)
      rotate_left
      · first | refine Or.inl ⟨by rfl, fun w hO => ?_⟩ | (refine Or.inr ⟨by rfl, ?_⟩; with_reducible rfl)
        first | done | (refine Out.call (f := 100) (args := ?_) ?_ ?_; rotate_left; (focus (go_simp; all_goals with_reducible rfl)); exact HD2.out _)
      refine Sim.sP (i := 8) (d := some 15) (h := ?_)
      refine Sim.sP (i := 9) (d := some 16) (h := ?_)
      refine Sim.done (by kernel_rfl) (fun w1 hO hX => ?_) _
      (try simp only [World.size_alloc1, World.size_drew, Nat.reduceAdd] at hO); (try simp only [upd, updI, List.map_cons, List.map_nil, eq_self, if_true, if_false, reduceIte, Nat.add_eq_left, Nat.left_eq_add, Nat.reduceEqDiff, List.set_cons_zero, List.set_cons_succ] at hO)
      have hF := hO; (try simp only [Own, Item.Holds, apartI, CellsAt, Nat.reduceAdd, Nat.zero_add, List.mem_cons, List.not_mem_nil, or_false, forall_eq_or_imp, forall_eq, ne_eq, false_imp_iff, implies_true, and_true] at hF)
      all_goals
        go_wp2
        go_ret
        exact ⟨rfl, Own.base (by first | exact hO | (repeat (first | (with_reducible exact hO) | (with_reducible apply Own.alloc) | (with_reducible apply Own.drew) | ((with_reducible apply Own.set_at); (focus (show _ ≤ _; omega))))))⟩

/- Chapter 12 in the program: MoveFault. -/
open Go.RowKit Go.Joins

/-- The ways of the first k of four voices. -/
def mvU (a b c d p q r s : Int) (k : Nat) : List Value := [.int .i64 (if 0 < k then a else 0), .int .i64 (if 0 < k then p else 0), .int .i64 (if 1 < k then b else 0), .int .i64 (if 1 < k then q else 0), .int .i64 (if 2 < k then c else 0), .int .i64 (if 2 < k then r else 0), .int .i64 (if 3 < k then d else 0), .int .i64 (if 3 < k then s else 0)]

set_option maxHeartbeats 4000000 in
theorem mtI_any (a b c d p q r s : Int) (w : World) : Calls Tryd.prog 76 #[.agg #[.int .i64 a, .int .i64 b, .int .i64 c, .int .i64 d], .agg #[.int .i64 p, .int .i64 q, .int .i64 r, .int .i64 s]] w
    fun e w' => e = .returned (.agg #[.int .i64 a, .int .i64 p, .int .i64 b, .int .i64 q, .int .i64 c, .int .i64 r, .int .i64 d, .int .i64 s]) ∧ Below w.heap.size w w' := by
  have hO := Own.start w
  have hF := True.intro
  go_enter Tryd.func76, Tryd.ntmps76
  go_wp2_with fail
  (apply own_code hO; (repeat (first | (with_reducible exact hO) | (with_reducible apply Own.alloc) | (with_reducible apply Own.drew) | ((with_reducible apply Own.set_at); (focus (show _ ≤ _; omega))))); have hG := hF; clear hF; clear hO; intro hO; (try simp only [World.size_alloc1, World.size_drew, Nat.reduceAdd] at hO); (try simp only [upd, updI, List.map_cons, List.map_nil, eq_self, if_true, if_false, reduceIte, Nat.add_eq_left, Nat.left_eq_add, Nat.reduceEqDiff, List.set_cons_zero, List.set_cons_succ, hG] at hO); clear hG; have hF := hO; (try simp only [Own, Item.Holds, apartI, CellsAt, Nat.reduceAdd, Nat.zero_add, List.mem_cons, List.not_mem_nil, or_false, forall_eq_or_imp, forall_eq, ne_eq, false_imp_iff, implies_true, and_true] at hF))
  go_loopw [7] (fun t wr => ∃ j : Nat, j ≤ 4 ∧ t = .int .i64 j ∧ Own w.heap.size (Below w.heap.size w) wr [.blk (w.heap.size + 1 + 1 + 1) (mvU a b c d p q r s j), .blk (w.heap.size + 1 + 1) [.int .i64 0, .int .i64 0, .int .i64 0, .int .i64 0, .int .i64 0, .int .i64 0, .int .i64 0, .int .i64 0], .blk (w.heap.size + 1) [.int .i64 p, .int .i64 q, .int .i64 r, .int .i64 s], .blk w.heap.size [.int .i64 a, .int .i64 b, .int .i64 c, .int .i64 d]]) (fun t _ => 4 - (intOf t).toNat)
  case atStart => exact ⟨0, by omega, rfl, hO⟩
  case round =>
    clear hO hF
    obtain ⟨j, hj, rfl, hO⟩ := hrel
    rcases (show j = 0 ∨ j = 1 ∨ j = 2 ∨ j = 3 ∨ j = 4 by omega) with rfl | rfl | rfl | rfl | rfl
    case inr.inr.inr.inr =>
      rw [show mvU a b c d p q r s 4 = [.int .i64 a, .int .i64 p, .int .i64 b, .int .i64 q, .int .i64 c, .int .i64 r, .int .i64 d, .int .i64 s] from rfl] at hO
      have hF := hO; (try simp only [Own, Item.Holds, apartI, CellsAt, Nat.reduceAdd, Nat.zero_add, List.mem_cons, List.not_mem_nil, or_false, forall_eq_or_imp, forall_eq, ne_eq, false_imp_iff, implies_true, and_true] at hF)
      go_wp2_with fail
      apply own_end hO
      (repeat (first | (with_reducible exact hO) | (with_reducible apply Own.alloc) | (with_reducible apply Own.drew) | ((with_reducible apply Own.set_at); (focus (show _ ≤ _; omega)))))
      have hG := hF; clear hF; clear hO; intro hO
      refine own_ret (v := .agg #[.int .i64 a, .int .i64 p, .int .i64 b, .int .i64 q, .int .i64 c, .int .i64 r, .int .i64 d, .int .i64 s]) hO ?_ rfl (fun hO => ⟨rfl, hO.base⟩)
      clear hO; intro w1 hO
      (try simp only [World.size_alloc1, World.size_drew, Nat.reduceAdd] at hO); (try simp only [upd, updI, List.map_cons, List.map_nil, eq_self, if_true, if_false, reduceIte, Nat.add_eq_left, Nat.left_eq_add, Nat.reduceEqDiff, List.set_cons_zero, List.set_cons_succ, hG] at hO); clear hG
      have hF := hO; (try simp only [Own, Item.Holds, apartI, CellsAt, Nat.reduceAdd, Nat.zero_add, List.mem_cons, List.not_mem_nil, or_false, forall_eq_or_imp, forall_eq, ne_eq, false_imp_iff, implies_true, and_true] at hF)
      simp [results, Tryd.results76, go_sem, hF]
    case inl =>
      rw [show mvU a b c d p q r s 0 = [.int .i64 0, .int .i64 0, .int .i64 0, .int .i64 0, .int .i64 0, .int .i64 0, .int .i64 0, .int .i64 0] from rfl] at hO
      have hF := hO; (try simp only [Own, Item.Holds, apartI, CellsAt, Nat.reduceAdd, Nat.zero_add, List.mem_cons, List.not_mem_nil, or_false, forall_eq_or_imp, forall_eq, ne_eq, false_imp_iff, implies_true, and_true] at hF)
      go_wp2_with fail
      apply own_code hO
      (repeat (first | (with_reducible exact hO) | (with_reducible apply Own.alloc) | (with_reducible apply Own.drew) | ((with_reducible apply Own.set_at); (focus (show _ ≤ _; omega)))))
      have hG := hF; clear hF; clear hO; intro hO
      (try simp only [World.size_alloc1, World.size_drew, Nat.reduceAdd] at hO); (try simp only [upd, updI, List.map_cons, List.map_nil, eq_self, if_true, if_false, reduceIte, Nat.add_eq_left, Nat.left_eq_add, Nat.reduceEqDiff, List.set_cons_zero, List.set_cons_succ, hG] at hO); clear hG
      refine region_own (X := fun _ => True) [9] (by kernel_rfl) (hO) (trivial) (by first | exact XStab.true | exact XStab.rd | exact XStab.rdIf) ?_
      clear hO
      refine Sim.sP (i := 0) (d := some 10) (h := ?_)
      refine Sim.sP (i := 1) (d := some 11) (h := ?_)
      refine Sim.sP (i := 2) (d := some 12) (h := ?_)
      refine Sim.sO (i := 3) (d := some 13) (v := ?_) (hy := ?_) (h := ?_)
      rotate_left
      · first | refine Or.inl ⟨by rfl, fun w hO => ?_⟩ | (refine Or.inr ⟨by rfl, ?_⟩; with_reducible rfl)
        first | done | (have hF := hO; (try simp only [Own, Item.Holds, apartI, CellsAt, Nat.reduceAdd, Nat.zero_add, List.mem_cons, List.not_mem_nil, or_false, forall_eq_or_imp, forall_eq, ne_eq, false_imp_iff, implies_true, and_true] at hF); refine Out.same ?_; go_simp; all_goals with_reducible rfl)
      refine Sim.sP (i := 4) (d := some 14) (h := ?_)
      refine Sim.sP (i := 5) (d := some 15) (h := ?_)
      refine Sim.sO (i := 6) (d := some 16) (v := ?_) (hy := ?_) (h := ?_)
      rotate_left
      · first | refine Or.inl ⟨by rfl, fun w hO => ?_⟩ | (refine Or.inr ⟨by rfl, ?_⟩; with_reducible rfl)
        first | done | (have hF := hO; (try simp only [Own, Item.Holds, apartI, CellsAt, Nat.reduceAdd, Nat.zero_add, List.mem_cons, List.not_mem_nil, or_false, forall_eq_or_imp, forall_eq, ne_eq, false_imp_iff, implies_true, and_true] at hF); refine Out.same ?_; go_simp; all_goals with_reducible rfl)
      refine Sim.sP (i := 7) (d := some 17) (h := ?_)
      refine Sim.sP (i := 8) (d := some 18) (h := ?_)
      refine Sim.one' (i := 9) (oi := { dst := none, op := Op.store 96 (Operand.tmp 18) (Operand.tmp 17), type := 0, pos := "l12_parts.go:148", after := #[{ on := 8, ground := Ground.data }, { on := 7, ground := Ground.data }, { on := 0, ground := Ground.phase }, { on := 1, ground := Ground.phase }, { on := 2, ground := Ground.phase }, { on := 3, ground := Ground.phase }, { on := 4, ground := Ground.phase }, { on := 5, ground := Ground.phase }, { on := 6, ground := Ground.phase }, { on := 7, ground := Ground.phase }], guard := none }) (by kernel_rfl) rfl (by rfl) (fun w0 hO hX K hK => ?_)
      have hF := hO; (try simp only [Own, Item.Holds, apartI, CellsAt, Nat.reduceAdd, Nat.zero_add, List.mem_cons, List.not_mem_nil, or_false, forall_eq_or_imp, forall_eq, ne_eq, false_imp_iff, implies_true, and_true] at hF)
      go_simp
      apply hK _ _ _ (fun _ => True)
      (repeat (first | (with_reducible exact hO) | (with_reducible apply Own.alloc) | (with_reducible apply Own.drew) | ((with_reducible apply Own.set_at); (focus (show _ ≤ _; omega)))))
      · first | exact trivial | exact hX | exact hX.below (below1 _) | exact RdIf.gone | exact hX.keep ((Below.refl _ _).setCell (by first | omega | (dsimp only; omega)) _)
      · exact (by first | exact XStab.true | exact XStab.rd | exact XStab.rdIf)
      · first | exact fun _ _ h => h.2 | exact fun _ _ h => h | exact fun h => absurd h (by decide)
      try simp only [upd, updI, List.map_cons, List.map_nil, eq_self, if_true, if_false, reduceIte, Nat.add_eq_left, Nat.left_eq_add, Nat.reduceEqDiff, List.set_cons_zero, List.set_cons_succ, hF]
      clear hK K hF hO
      try simp only [Act.put, List.setIfInBounds_toArray, List.set_cons_zero, List.set_cons_succ]
      refine Sim.done (by kernel_rfl) (fun w1 hO hX => ?_) _
      (try simp only [World.size_alloc1, World.size_drew, Nat.reduceAdd] at hO); (try simp only [upd, updI, List.map_cons, List.map_nil, eq_self, if_true, if_false, reduceIte, Nat.add_eq_left, Nat.left_eq_add, Nat.reduceEqDiff, List.set_cons_zero, List.set_cons_succ] at hO)
      have hF := hO; (try simp only [Own, Item.Holds, apartI, CellsAt, Nat.reduceAdd, Nat.zero_add, List.mem_cons, List.not_mem_nil, or_false, forall_eq_or_imp, forall_eq, ne_eq, false_imp_iff, implies_true, and_true] at hF)
      all_goals
        go_wp2_with fail
        go_roundw
        case rel => exact ⟨1, by omega, by go_num, show Own w.heap.size (Below w.heap.size w) _ [.blk (w.heap.size + 1 + 1 + 1) [.int .i64 a, .int .i64 p, .int .i64 0, .int .i64 0, .int .i64 0, .int .i64 0, .int .i64 0, .int .i64 0], .blk (w.heap.size + 1 + 1) [.int .i64 0, .int .i64 0, .int .i64 0, .int .i64 0, .int .i64 0, .int .i64 0, .int .i64 0, .int .i64 0], .blk (w.heap.size + 1) [.int .i64 p, .int .i64 q, .int .i64 r, .int .i64 s], .blk w.heap.size [.int .i64 a, .int .i64 b, .int .i64 c, .int .i64 d]] from by first | exact hO | (apply Own.cast; (focus ((repeat (first | (with_reducible exact hO) | (with_reducible apply Own.alloc) | (with_reducible apply Own.drew) | ((with_reducible apply Own.set_at); (focus (show _ ≤ _; omega))))))); (first | rfl | (simp only [upd, updI, List.map_cons, List.map_nil, eq_self, if_true, if_false, reduceIte, Nat.add_eq_left, Nat.left_eq_add, Nat.reduceEqDiff, List.set_cons_zero, List.set_cons_succ, hF]; done) | (simp [upd, updI, List.map_cons, List.map_nil, eq_self, if_true, if_false, reduceIte, Nat.add_eq_left, Nat.left_eq_add, Nat.reduceEqDiff, List.set_cons_zero, List.set_cons_succ, hF]; done)))⟩
        case measure => simp [intOf]
    case inr.inl =>
      rw [show mvU a b c d p q r s 1 = [.int .i64 a, .int .i64 p, .int .i64 0, .int .i64 0, .int .i64 0, .int .i64 0, .int .i64 0, .int .i64 0] from rfl] at hO
      have hF := hO; (try simp only [Own, Item.Holds, apartI, CellsAt, Nat.reduceAdd, Nat.zero_add, List.mem_cons, List.not_mem_nil, or_false, forall_eq_or_imp, forall_eq, ne_eq, false_imp_iff, implies_true, and_true] at hF)
      go_wp2_with fail
      apply own_code hO
      (repeat (first | (with_reducible exact hO) | (with_reducible apply Own.alloc) | (with_reducible apply Own.drew) | ((with_reducible apply Own.set_at); (focus (show _ ≤ _; omega)))))
      have hG := hF; clear hF; clear hO; intro hO
      (try simp only [World.size_alloc1, World.size_drew, Nat.reduceAdd] at hO); (try simp only [upd, updI, List.map_cons, List.map_nil, eq_self, if_true, if_false, reduceIte, Nat.add_eq_left, Nat.left_eq_add, Nat.reduceEqDiff, List.set_cons_zero, List.set_cons_succ, hG] at hO); clear hG
      refine region_own (X := fun _ => True) [9] (by kernel_rfl) (hO) (trivial) (by first | exact XStab.true | exact XStab.rd | exact XStab.rdIf) ?_
      clear hO
      refine Sim.sP (i := 0) (d := some 10) (h := ?_)
      refine Sim.sP (i := 1) (d := some 11) (h := ?_)
      refine Sim.sP (i := 2) (d := some 12) (h := ?_)
      refine Sim.sO (i := 3) (d := some 13) (v := ?_) (hy := ?_) (h := ?_)
      rotate_left
      · first | refine Or.inl ⟨by rfl, fun w hO => ?_⟩ | (refine Or.inr ⟨by rfl, ?_⟩; with_reducible rfl)
        first | done | (have hF := hO; (try simp only [Own, Item.Holds, apartI, CellsAt, Nat.reduceAdd, Nat.zero_add, List.mem_cons, List.not_mem_nil, or_false, forall_eq_or_imp, forall_eq, ne_eq, false_imp_iff, implies_true, and_true] at hF); refine Out.same ?_; go_simp; all_goals with_reducible rfl)
      refine Sim.sP (i := 4) (d := some 14) (h := ?_)
      refine Sim.sP (i := 5) (d := some 15) (h := ?_)
      refine Sim.sO (i := 6) (d := some 16) (v := ?_) (hy := ?_) (h := ?_)
      rotate_left
      · first | refine Or.inl ⟨by rfl, fun w hO => ?_⟩ | (refine Or.inr ⟨by rfl, ?_⟩; with_reducible rfl)
        first | done | (have hF := hO; (try simp only [Own, Item.Holds, apartI, CellsAt, Nat.reduceAdd, Nat.zero_add, List.mem_cons, List.not_mem_nil, or_false, forall_eq_or_imp, forall_eq, ne_eq, false_imp_iff, implies_true, and_true] at hF); refine Out.same ?_; go_simp; all_goals with_reducible rfl)
      refine Sim.sP (i := 7) (d := some 17) (h := ?_)
      refine Sim.sP (i := 8) (d := some 18) (h := ?_)
      refine Sim.one' (i := 9) (oi := { dst := none, op := Op.store 96 (Operand.tmp 18) (Operand.tmp 17), type := 0, pos := "l12_parts.go:148", after := #[{ on := 8, ground := Ground.data }, { on := 7, ground := Ground.data }, { on := 0, ground := Ground.phase }, { on := 1, ground := Ground.phase }, { on := 2, ground := Ground.phase }, { on := 3, ground := Ground.phase }, { on := 4, ground := Ground.phase }, { on := 5, ground := Ground.phase }, { on := 6, ground := Ground.phase }, { on := 7, ground := Ground.phase }], guard := none }) (by kernel_rfl) rfl (by rfl) (fun w0 hO hX K hK => ?_)
      have hF := hO; (try simp only [Own, Item.Holds, apartI, CellsAt, Nat.reduceAdd, Nat.zero_add, List.mem_cons, List.not_mem_nil, or_false, forall_eq_or_imp, forall_eq, ne_eq, false_imp_iff, implies_true, and_true] at hF)
      go_simp
      apply hK _ _ _ (fun _ => True)
      (repeat (first | (with_reducible exact hO) | (with_reducible apply Own.alloc) | (with_reducible apply Own.drew) | ((with_reducible apply Own.set_at); (focus (show _ ≤ _; omega)))))
      · first | exact trivial | exact hX | exact hX.below (below1 _) | exact RdIf.gone | exact hX.keep ((Below.refl _ _).setCell (by first | omega | (dsimp only; omega)) _)
      · exact (by first | exact XStab.true | exact XStab.rd | exact XStab.rdIf)
      · first | exact fun _ _ h => h.2 | exact fun _ _ h => h | exact fun h => absurd h (by decide)
      try simp only [upd, updI, List.map_cons, List.map_nil, eq_self, if_true, if_false, reduceIte, Nat.add_eq_left, Nat.left_eq_add, Nat.reduceEqDiff, List.set_cons_zero, List.set_cons_succ, hF]
      clear hK K hF hO
      try simp only [Act.put, List.setIfInBounds_toArray, List.set_cons_zero, List.set_cons_succ]
      refine Sim.done (by kernel_rfl) (fun w1 hO hX => ?_) _
      (try simp only [World.size_alloc1, World.size_drew, Nat.reduceAdd] at hO); (try simp only [upd, updI, List.map_cons, List.map_nil, eq_self, if_true, if_false, reduceIte, Nat.add_eq_left, Nat.left_eq_add, Nat.reduceEqDiff, List.set_cons_zero, List.set_cons_succ] at hO)
      have hF := hO; (try simp only [Own, Item.Holds, apartI, CellsAt, Nat.reduceAdd, Nat.zero_add, List.mem_cons, List.not_mem_nil, or_false, forall_eq_or_imp, forall_eq, ne_eq, false_imp_iff, implies_true, and_true] at hF)
      all_goals
        go_wp2_with fail
        go_roundw
        case rel => exact ⟨2, by omega, by go_num, show Own w.heap.size (Below w.heap.size w) _ [.blk (w.heap.size + 1 + 1 + 1) [.int .i64 a, .int .i64 p, .int .i64 b, .int .i64 q, .int .i64 0, .int .i64 0, .int .i64 0, .int .i64 0], .blk (w.heap.size + 1 + 1) [.int .i64 0, .int .i64 0, .int .i64 0, .int .i64 0, .int .i64 0, .int .i64 0, .int .i64 0, .int .i64 0], .blk (w.heap.size + 1) [.int .i64 p, .int .i64 q, .int .i64 r, .int .i64 s], .blk w.heap.size [.int .i64 a, .int .i64 b, .int .i64 c, .int .i64 d]] from by first | exact hO | (apply Own.cast; (focus ((repeat (first | (with_reducible exact hO) | (with_reducible apply Own.alloc) | (with_reducible apply Own.drew) | ((with_reducible apply Own.set_at); (focus (show _ ≤ _; omega))))))); (first | rfl | (simp only [upd, updI, List.map_cons, List.map_nil, eq_self, if_true, if_false, reduceIte, Nat.add_eq_left, Nat.left_eq_add, Nat.reduceEqDiff, List.set_cons_zero, List.set_cons_succ, hF]; done) | (simp [upd, updI, List.map_cons, List.map_nil, eq_self, if_true, if_false, reduceIte, Nat.add_eq_left, Nat.left_eq_add, Nat.reduceEqDiff, List.set_cons_zero, List.set_cons_succ, hF]; done)))⟩
        case measure => simp [intOf]
    case inr.inr.inl =>
      rw [show mvU a b c d p q r s 2 = [.int .i64 a, .int .i64 p, .int .i64 b, .int .i64 q, .int .i64 0, .int .i64 0, .int .i64 0, .int .i64 0] from rfl] at hO
      have hF := hO; (try simp only [Own, Item.Holds, apartI, CellsAt, Nat.reduceAdd, Nat.zero_add, List.mem_cons, List.not_mem_nil, or_false, forall_eq_or_imp, forall_eq, ne_eq, false_imp_iff, implies_true, and_true] at hF)
      go_wp2_with fail
      apply own_code hO
      (repeat (first | (with_reducible exact hO) | (with_reducible apply Own.alloc) | (with_reducible apply Own.drew) | ((with_reducible apply Own.set_at); (focus (show _ ≤ _; omega)))))
      have hG := hF; clear hF; clear hO; intro hO
      (try simp only [World.size_alloc1, World.size_drew, Nat.reduceAdd] at hO); (try simp only [upd, updI, List.map_cons, List.map_nil, eq_self, if_true, if_false, reduceIte, Nat.add_eq_left, Nat.left_eq_add, Nat.reduceEqDiff, List.set_cons_zero, List.set_cons_succ, hG] at hO); clear hG
      refine region_own (X := fun _ => True) [9] (by kernel_rfl) (hO) (trivial) (by first | exact XStab.true | exact XStab.rd | exact XStab.rdIf) ?_
      clear hO
      refine Sim.sP (i := 0) (d := some 10) (h := ?_)
      refine Sim.sP (i := 1) (d := some 11) (h := ?_)
      refine Sim.sP (i := 2) (d := some 12) (h := ?_)
      refine Sim.sO (i := 3) (d := some 13) (v := ?_) (hy := ?_) (h := ?_)
      rotate_left
      · first | refine Or.inl ⟨by rfl, fun w hO => ?_⟩ | (refine Or.inr ⟨by rfl, ?_⟩; with_reducible rfl)
        first | done | (have hF := hO; (try simp only [Own, Item.Holds, apartI, CellsAt, Nat.reduceAdd, Nat.zero_add, List.mem_cons, List.not_mem_nil, or_false, forall_eq_or_imp, forall_eq, ne_eq, false_imp_iff, implies_true, and_true] at hF); refine Out.same ?_; go_simp; all_goals with_reducible rfl)
      refine Sim.sP (i := 4) (d := some 14) (h := ?_)
      refine Sim.sP (i := 5) (d := some 15) (h := ?_)
      refine Sim.sO (i := 6) (d := some 16) (v := ?_) (hy := ?_) (h := ?_)
      rotate_left
      · first | refine Or.inl ⟨by rfl, fun w hO => ?_⟩ | (refine Or.inr ⟨by rfl, ?_⟩; with_reducible rfl)
        first | done | (have hF := hO; (try simp only [Own, Item.Holds, apartI, CellsAt, Nat.reduceAdd, Nat.zero_add, List.mem_cons, List.not_mem_nil, or_false, forall_eq_or_imp, forall_eq, ne_eq, false_imp_iff, implies_true, and_true] at hF); refine Out.same ?_; go_simp; all_goals with_reducible rfl)
      refine Sim.sP (i := 7) (d := some 17) (h := ?_)
      refine Sim.sP (i := 8) (d := some 18) (h := ?_)
      refine Sim.one' (i := 9) (oi := { dst := none, op := Op.store 96 (Operand.tmp 18) (Operand.tmp 17), type := 0, pos := "l12_parts.go:148", after := #[{ on := 8, ground := Ground.data }, { on := 7, ground := Ground.data }, { on := 0, ground := Ground.phase }, { on := 1, ground := Ground.phase }, { on := 2, ground := Ground.phase }, { on := 3, ground := Ground.phase }, { on := 4, ground := Ground.phase }, { on := 5, ground := Ground.phase }, { on := 6, ground := Ground.phase }, { on := 7, ground := Ground.phase }], guard := none }) (by kernel_rfl) rfl (by rfl) (fun w0 hO hX K hK => ?_)
      have hF := hO; (try simp only [Own, Item.Holds, apartI, CellsAt, Nat.reduceAdd, Nat.zero_add, List.mem_cons, List.not_mem_nil, or_false, forall_eq_or_imp, forall_eq, ne_eq, false_imp_iff, implies_true, and_true] at hF)
      go_simp
      apply hK _ _ _ (fun _ => True)
      (repeat (first | (with_reducible exact hO) | (with_reducible apply Own.alloc) | (with_reducible apply Own.drew) | ((with_reducible apply Own.set_at); (focus (show _ ≤ _; omega)))))
      · first | exact trivial | exact hX | exact hX.below (below1 _) | exact RdIf.gone | exact hX.keep ((Below.refl _ _).setCell (by first | omega | (dsimp only; omega)) _)
      · exact (by first | exact XStab.true | exact XStab.rd | exact XStab.rdIf)
      · first | exact fun _ _ h => h.2 | exact fun _ _ h => h | exact fun h => absurd h (by decide)
      try simp only [upd, updI, List.map_cons, List.map_nil, eq_self, if_true, if_false, reduceIte, Nat.add_eq_left, Nat.left_eq_add, Nat.reduceEqDiff, List.set_cons_zero, List.set_cons_succ, hF]
      clear hK K hF hO
      try simp only [Act.put, List.setIfInBounds_toArray, List.set_cons_zero, List.set_cons_succ]
      refine Sim.done (by kernel_rfl) (fun w1 hO hX => ?_) _
      (try simp only [World.size_alloc1, World.size_drew, Nat.reduceAdd] at hO); (try simp only [upd, updI, List.map_cons, List.map_nil, eq_self, if_true, if_false, reduceIte, Nat.add_eq_left, Nat.left_eq_add, Nat.reduceEqDiff, List.set_cons_zero, List.set_cons_succ] at hO)
      have hF := hO; (try simp only [Own, Item.Holds, apartI, CellsAt, Nat.reduceAdd, Nat.zero_add, List.mem_cons, List.not_mem_nil, or_false, forall_eq_or_imp, forall_eq, ne_eq, false_imp_iff, implies_true, and_true] at hF)
      all_goals
        go_wp2_with fail
        go_roundw
        case rel => exact ⟨3, by omega, by go_num, show Own w.heap.size (Below w.heap.size w) _ [.blk (w.heap.size + 1 + 1 + 1) [.int .i64 a, .int .i64 p, .int .i64 b, .int .i64 q, .int .i64 c, .int .i64 r, .int .i64 0, .int .i64 0], .blk (w.heap.size + 1 + 1) [.int .i64 0, .int .i64 0, .int .i64 0, .int .i64 0, .int .i64 0, .int .i64 0, .int .i64 0, .int .i64 0], .blk (w.heap.size + 1) [.int .i64 p, .int .i64 q, .int .i64 r, .int .i64 s], .blk w.heap.size [.int .i64 a, .int .i64 b, .int .i64 c, .int .i64 d]] from by first | exact hO | (apply Own.cast; (focus ((repeat (first | (with_reducible exact hO) | (with_reducible apply Own.alloc) | (with_reducible apply Own.drew) | ((with_reducible apply Own.set_at); (focus (show _ ≤ _; omega))))))); (first | rfl | (simp only [upd, updI, List.map_cons, List.map_nil, eq_self, if_true, if_false, reduceIte, Nat.add_eq_left, Nat.left_eq_add, Nat.reduceEqDiff, List.set_cons_zero, List.set_cons_succ, hF]; done) | (simp [upd, updI, List.map_cons, List.map_nil, eq_self, if_true, if_false, reduceIte, Nat.add_eq_left, Nat.left_eq_add, Nat.reduceEqDiff, List.set_cons_zero, List.set_cons_succ, hF]; done)))⟩
        case measure => simp [intOf]
    case inr.inr.inr.inl =>
      rw [show mvU a b c d p q r s 3 = [.int .i64 a, .int .i64 p, .int .i64 b, .int .i64 q, .int .i64 c, .int .i64 r, .int .i64 0, .int .i64 0] from rfl] at hO
      have hF := hO; (try simp only [Own, Item.Holds, apartI, CellsAt, Nat.reduceAdd, Nat.zero_add, List.mem_cons, List.not_mem_nil, or_false, forall_eq_or_imp, forall_eq, ne_eq, false_imp_iff, implies_true, and_true] at hF)
      go_wp2_with fail
      apply own_code hO
      (repeat (first | (with_reducible exact hO) | (with_reducible apply Own.alloc) | (with_reducible apply Own.drew) | ((with_reducible apply Own.set_at); (focus (show _ ≤ _; omega)))))
      have hG := hF; clear hF; clear hO; intro hO
      (try simp only [World.size_alloc1, World.size_drew, Nat.reduceAdd] at hO); (try simp only [upd, updI, List.map_cons, List.map_nil, eq_self, if_true, if_false, reduceIte, Nat.add_eq_left, Nat.left_eq_add, Nat.reduceEqDiff, List.set_cons_zero, List.set_cons_succ, hG] at hO); clear hG
      refine region_own (X := fun _ => True) [9] (by kernel_rfl) (hO) (trivial) (by first | exact XStab.true | exact XStab.rd | exact XStab.rdIf) ?_
      clear hO
      refine Sim.sP (i := 0) (d := some 10) (h := ?_)
      refine Sim.sP (i := 1) (d := some 11) (h := ?_)
      refine Sim.sP (i := 2) (d := some 12) (h := ?_)
      refine Sim.sO (i := 3) (d := some 13) (v := ?_) (hy := ?_) (h := ?_)
      rotate_left
      · first | refine Or.inl ⟨by rfl, fun w hO => ?_⟩ | (refine Or.inr ⟨by rfl, ?_⟩; with_reducible rfl)
        first | done | (have hF := hO; (try simp only [Own, Item.Holds, apartI, CellsAt, Nat.reduceAdd, Nat.zero_add, List.mem_cons, List.not_mem_nil, or_false, forall_eq_or_imp, forall_eq, ne_eq, false_imp_iff, implies_true, and_true] at hF); refine Out.same ?_; go_simp; all_goals with_reducible rfl)
      refine Sim.sP (i := 4) (d := some 14) (h := ?_)
      refine Sim.sP (i := 5) (d := some 15) (h := ?_)
      refine Sim.sO (i := 6) (d := some 16) (v := ?_) (hy := ?_) (h := ?_)
      rotate_left
      · first | refine Or.inl ⟨by rfl, fun w hO => ?_⟩ | (refine Or.inr ⟨by rfl, ?_⟩; with_reducible rfl)
        first | done | (have hF := hO; (try simp only [Own, Item.Holds, apartI, CellsAt, Nat.reduceAdd, Nat.zero_add, List.mem_cons, List.not_mem_nil, or_false, forall_eq_or_imp, forall_eq, ne_eq, false_imp_iff, implies_true, and_true] at hF); refine Out.same ?_; go_simp; all_goals with_reducible rfl)
      refine Sim.sP (i := 7) (d := some 17) (h := ?_)
      refine Sim.sP (i := 8) (d := some 18) (h := ?_)
      refine Sim.one' (i := 9) (oi := { dst := none, op := Op.store 96 (Operand.tmp 18) (Operand.tmp 17), type := 0, pos := "l12_parts.go:148", after := #[{ on := 8, ground := Ground.data }, { on := 7, ground := Ground.data }, { on := 0, ground := Ground.phase }, { on := 1, ground := Ground.phase }, { on := 2, ground := Ground.phase }, { on := 3, ground := Ground.phase }, { on := 4, ground := Ground.phase }, { on := 5, ground := Ground.phase }, { on := 6, ground := Ground.phase }, { on := 7, ground := Ground.phase }], guard := none }) (by kernel_rfl) rfl (by rfl) (fun w0 hO hX K hK => ?_)
      have hF := hO; (try simp only [Own, Item.Holds, apartI, CellsAt, Nat.reduceAdd, Nat.zero_add, List.mem_cons, List.not_mem_nil, or_false, forall_eq_or_imp, forall_eq, ne_eq, false_imp_iff, implies_true, and_true] at hF)
      go_simp
      apply hK _ _ _ (fun _ => True)
      (repeat (first | (with_reducible exact hO) | (with_reducible apply Own.alloc) | (with_reducible apply Own.drew) | ((with_reducible apply Own.set_at); (focus (show _ ≤ _; omega)))))
      · first | exact trivial | exact hX | exact hX.below (below1 _) | exact RdIf.gone | exact hX.keep ((Below.refl _ _).setCell (by first | omega | (dsimp only; omega)) _)
      · exact (by first | exact XStab.true | exact XStab.rd | exact XStab.rdIf)
      · first | exact fun _ _ h => h.2 | exact fun _ _ h => h | exact fun h => absurd h (by decide)
      try simp only [upd, updI, List.map_cons, List.map_nil, eq_self, if_true, if_false, reduceIte, Nat.add_eq_left, Nat.left_eq_add, Nat.reduceEqDiff, List.set_cons_zero, List.set_cons_succ, hF]
      clear hK K hF hO
      try simp only [Act.put, List.setIfInBounds_toArray, List.set_cons_zero, List.set_cons_succ]
      refine Sim.done (by kernel_rfl) (fun w1 hO hX => ?_) _
      (try simp only [World.size_alloc1, World.size_drew, Nat.reduceAdd] at hO); (try simp only [upd, updI, List.map_cons, List.map_nil, eq_self, if_true, if_false, reduceIte, Nat.add_eq_left, Nat.left_eq_add, Nat.reduceEqDiff, List.set_cons_zero, List.set_cons_succ] at hO)
      have hF := hO; (try simp only [Own, Item.Holds, apartI, CellsAt, Nat.reduceAdd, Nat.zero_add, List.mem_cons, List.not_mem_nil, or_false, forall_eq_or_imp, forall_eq, ne_eq, false_imp_iff, implies_true, and_true] at hF)
      all_goals
        go_wp2_with fail
        go_roundw
        case rel => exact ⟨4, by omega, by go_num, show Own w.heap.size (Below w.heap.size w) _ [.blk (w.heap.size + 1 + 1 + 1) [.int .i64 a, .int .i64 p, .int .i64 b, .int .i64 q, .int .i64 c, .int .i64 r, .int .i64 d, .int .i64 s], .blk (w.heap.size + 1 + 1) [.int .i64 0, .int .i64 0, .int .i64 0, .int .i64 0, .int .i64 0, .int .i64 0, .int .i64 0, .int .i64 0], .blk (w.heap.size + 1) [.int .i64 p, .int .i64 q, .int .i64 r, .int .i64 s], .blk w.heap.size [.int .i64 a, .int .i64 b, .int .i64 c, .int .i64 d]] from by first | exact hO | (apply Own.cast; (focus ((repeat (first | (with_reducible exact hO) | (with_reducible apply Own.alloc) | (with_reducible apply Own.drew) | ((with_reducible apply Own.set_at); (focus (show _ ≤ _; omega))))))); (first | rfl | (simp only [upd, updI, List.map_cons, List.map_nil, eq_self, if_true, if_false, reduceIte, Nat.add_eq_left, Nat.left_eq_add, Nat.reduceEqDiff, List.set_cons_zero, List.set_cons_succ, hF]; done) | (simp [upd, updI, List.map_cons, List.map_nil, eq_self, if_true, if_false, reduceIte, Nat.add_eq_left, Nat.left_eq_add, Nat.reduceEqDiff, List.set_cons_zero, List.set_cons_succ, hF]; done)))⟩
        case measure => simp [intOf]

/- Chapter 12 in the program: MoveFault. -/
open Go.RowKit Go.Joins

theorem idx_mv (a0 a1 a2 a3 b0 b1 b2 b3 : Int) {k : Nat} (h : k < 4) (w : World) :
    (Instr.index 97 (.agg #[.int .i64 a0, .int .i64 b0, .int .i64 a1, .int .i64 b1, .int .i64 a2, .int .i64 b2, .int .i64 a3, .int .i64 b3]) (.int .i64 k)).run Tryd.prog w = .ok (.agg #[.int .i64 ([a0, a1, a2, a3].getD k 0), .int .i64 ([b0, b1, b2, b3].getD k 0)]) w := by
  rcases (show k = 0 ∨ k = 1 ∨ k = 2 ∨ k = 3 by omega) with rfl | rfl | rfl | rfl
  all_goals kernel_rfl
theorem mv_cells {a b : List Pt} {a0 a1 a2 a3 b0 b1 b2 b3 : Int} (ha : K4 a a0 a1 a2 a3) (hb : K4 b b0 b1 b2 b3) {i : Nat} (hi : i < 4) : [a0, b0, a1, b1, a2, b2, a3, b3][i * 2]? = some (k4 a i) ∧ [a0, b0, a1, b1, a2, b2, a3, b3][i * 2 + 1]? = some (k4 b i) ∧ [a0, a1, a2, a3].getD i 0 = k4 a i ∧ [b0, b1, b2, b3].getD i 0 = k4 b i := by
  have h1 := ha i hi
  have h2 := hb i hi
  refine ⟨?_, ?_, by rw [List.getD_eq_getElem?_getD, h1]; rfl, by rw [List.getD_eq_getElem?_getD, h2]; rfl⟩
  · rw [← h1]; rcases (show i = 0 ∨ i = 1 ∨ i = 2 ∨ i = 3 by omega) with rfl | rfl | rfl | rfl <;> rfl
  · rw [← h2]; rcases (show i = 0 ∨ i = 1 ∨ i = 2 ∨ i = 3 by omega) with rfl | rfl | rfl | rfl <;> rfl
/-- What the keys of some voices are, valid or not. -/
theorem ks_all {va : Value} {l : List Pt} {w : World} (hT : TabH w) (hs : SlAt w va l.length 3 (pcC l)) (hn : l.length ≤ 1048576) : ∃ a b c d : Int, (vo4 l = true → K4 l a b c d) ∧ ∀ W, Below w.heap.size w W →
    Calls Tryd.prog 72 #[va] W fun e w' => e = .returned (.tuple #[.agg #[.int .i64 a, .int .i64 b, .int .i64 c, .int .i64 d], .bool (vo4 l)]) ∧ Below W.heap.size W w' := by
  cases hv : vo4 l
  · exact ⟨0, 0, 0, 0, (fun h => by cases h), fun W hW => ksI_no va l W (hs.below hW) hn hv⟩
  · exact ⟨_, _, _, _, fun _ => k4_self l, fun W hW => ksI_yes va l W (hT.below hW) (hs.below hW) hv (k4_self l)⟩

set_option maxRecDepth 20000 in
set_option maxHeartbeats 8000000 in
theorem mvI_any (va vb : Value) (a b : List Pt) (w : World) (hT : TabH w) (hs : SlAt w va a.length 3 (pcC a)) (ht : SlAt w vb b.length 3 (pcC b)) (hn : a.length ≤ 1048576) (hm : b.length ≤ 1048576) :
    Calls Tryd.prog 35 #[va, vb] w fun e w' => e = .returned (.int .i64 (mvZ a b)) ∧ Below w.heap.size w w' := by
  have hO := Own.start w
  have hF := True.intro
  obtain ⟨a0, a1, a2, a3, ka, ca⟩ := ks_all hT hs hn
  obtain ⟨b0, b1, b2, b3, kb, cb⟩ := ks_all hT ht hm
  obtain ⟨A, cA, rfl, _, _⟩ := hs.open
  obtain ⟨A', cA', rfl, _, _⟩ := ht.open
  obtain ⟨na, hna⟩ : ∃ n, a.length = n := ⟨_, rfl⟩
  obtain ⟨nb, hnb⟩ : ∃ n, b.length = n := ⟨_, rfl⟩
  rw [hna] at ca ⊢
  rw [hnb] at cb ⊢
  clear hna hnb hs ht hn hm hT
  have HA := hid ca
  have HB := hid cb
  clear ca cb
  cases hva : vo4 a
  · have HE := hid (mv_voices (a := a) (b := b) (by rw [hva]; simp))
    rw [hva] at HA
    cases hvb : vo4 b
    all_goals
      rw [hvb] at HB
      clear ka kb
      go_enter Tryd.func35, Tryd.ntmps35
      go_wp2_with fail
      (go_at_call 72; apply own_at hO; (repeat (first | (with_reducible exact hO) | (with_reducible apply Own.alloc) | (with_reducible apply Own.drew) | ((with_reducible apply Own.set_at); (focus (show _ ≤ _; omega))))); have hG := hF; clear hF; clear hO; intro hO; refine own_call hO (fun hB => HA.out _ hB) ?_; clear hO; intro w1 hO; (try simp only [World.size_alloc1, World.size_drew, Nat.reduceAdd] at hO); (try simp only [upd, updI, List.map_cons, List.map_nil, eq_self, if_true, if_false, reduceIte, Nat.add_eq_left, Nat.left_eq_add, Nat.reduceEqDiff, List.set_cons_zero, List.set_cons_succ, hG] at hO); clear hG; have hF := hO; (try simp only [Own, Item.Holds, apartI, CellsAt, Nat.reduceAdd, Nat.zero_add, List.mem_cons, List.not_mem_nil, or_false, forall_eq_or_imp, forall_eq, ne_eq, false_imp_iff, implies_true, and_true] at hF))
      go_wp2_with fail
      (go_at_call 72; apply own_at hO; (repeat (first | (with_reducible exact hO) | (with_reducible apply Own.alloc) | (with_reducible apply Own.drew) | ((with_reducible apply Own.set_at); (focus (show _ ≤ _; omega))))); have hG := hF; clear hF; clear hO; intro hO; refine own_call hO (fun hB => HB.out _ hB) ?_; clear hO; intro w1 hO; (try simp only [World.size_alloc1, World.size_drew, Nat.reduceAdd] at hO); (try simp only [upd, updI, List.map_cons, List.map_nil, eq_self, if_true, if_false, reduceIte, Nat.add_eq_left, Nat.left_eq_add, Nat.reduceEqDiff, List.set_cons_zero, List.set_cons_succ, hG] at hO); clear hG; have hF := hO; (try simp only [Own, Item.Holds, apartI, CellsAt, Nat.reduceAdd, Nat.zero_add, List.mem_cons, List.not_mem_nil, or_false, forall_eq_or_imp, forall_eq, ne_eq, false_imp_iff, implies_true, and_true] at hF))
      go_wp2_with fail
      go_ret
      exact ⟨ret_int HE.out.symm, Own.base (by first | exact hO | (repeat (first | (with_reducible exact hO) | (with_reducible apply Own.alloc) | (with_reducible apply Own.drew) | ((with_reducible apply Own.set_at); (focus (show _ ≤ _; omega))))))⟩
  · rw [hva] at HA
    cases hvb : vo4 b
    · have HE := hid (mv_voices (a := a) (b := b) (by rw [hvb]; simp))
      rw [hvb] at HB
      clear ka kb
      go_enter Tryd.func35, Tryd.ntmps35
      go_wp2_with fail
      (go_at_call 72; apply own_at hO; (repeat (first | (with_reducible exact hO) | (with_reducible apply Own.alloc) | (with_reducible apply Own.drew) | ((with_reducible apply Own.set_at); (focus (show _ ≤ _; omega))))); have hG := hF; clear hF; clear hO; intro hO; refine own_call hO (fun hB => HA.out _ hB) ?_; clear hO; intro w1 hO; (try simp only [World.size_alloc1, World.size_drew, Nat.reduceAdd] at hO); (try simp only [upd, updI, List.map_cons, List.map_nil, eq_self, if_true, if_false, reduceIte, Nat.add_eq_left, Nat.left_eq_add, Nat.reduceEqDiff, List.set_cons_zero, List.set_cons_succ, hG] at hO); clear hG; have hF := hO; (try simp only [Own, Item.Holds, apartI, CellsAt, Nat.reduceAdd, Nat.zero_add, List.mem_cons, List.not_mem_nil, or_false, forall_eq_or_imp, forall_eq, ne_eq, false_imp_iff, implies_true, and_true] at hF))
      go_wp2_with fail
      (go_at_call 72; apply own_at hO; (repeat (first | (with_reducible exact hO) | (with_reducible apply Own.alloc) | (with_reducible apply Own.drew) | ((with_reducible apply Own.set_at); (focus (show _ ≤ _; omega))))); have hG := hF; clear hF; clear hO; intro hO; refine own_call hO (fun hB => HB.out _ hB) ?_; clear hO; intro w1 hO; (try simp only [World.size_alloc1, World.size_drew, Nat.reduceAdd] at hO); (try simp only [upd, updI, List.map_cons, List.map_nil, eq_self, if_true, if_false, reduceIte, Nat.add_eq_left, Nat.left_eq_add, Nat.reduceEqDiff, List.set_cons_zero, List.set_cons_succ, hG] at hO); clear hG; have hF := hO; (try simp only [Own, Item.Holds, apartI, CellsAt, Nat.reduceAdd, Nat.zero_add, List.mem_cons, List.not_mem_nil, or_false, forall_eq_or_imp, forall_eq, ne_eq, false_imp_iff, implies_true, and_true] at hF))
      go_wp2_with fail
      go_ret
      exact ⟨ret_int HE.out.symm, Own.base (by first | exact hO | (repeat (first | (with_reducible exact hO) | (with_reducible apply Own.alloc) | (with_reducible apply Own.drew) | ((with_reducible apply Own.set_at); (focus (show _ ≤ _; omega))))))⟩
    · rw [hvb] at HB
      have HV := hid (And.intro hva hvb)
      have HM := hid (fun (i : Nat) (hi : i < 4) => mv_cells (ka hva) (kb hvb) hi)
      have HX := hid (fun (i : Nat) (hi : i < 4) W => idx_mv a0 a1 a2 a3 b0 b1 b2 b3 hi W)
      clear ka kb hva hvb
      go_enter Tryd.func35, Tryd.ntmps35
      go_wp2_with fail
      (go_at_call 72; apply own_at hO; (repeat (first | (with_reducible exact hO) | (with_reducible apply Own.alloc) | (with_reducible apply Own.drew) | ((with_reducible apply Own.set_at); (focus (show _ ≤ _; omega))))); have hG := hF; clear hF; clear hO; intro hO; refine own_call hO (fun hB => HA.out _ hB) ?_; clear hO; intro wa hO; (try simp only [World.size_alloc1, World.size_drew, Nat.reduceAdd] at hO); (try simp only [upd, updI, List.map_cons, List.map_nil, eq_self, if_true, if_false, reduceIte, Nat.add_eq_left, Nat.left_eq_add, Nat.reduceEqDiff, List.set_cons_zero, List.set_cons_succ, hG] at hO); clear hG; have hF := hO; (try simp only [Own, Item.Holds, apartI, CellsAt, Nat.reduceAdd, Nat.zero_add, List.mem_cons, List.not_mem_nil, or_false, forall_eq_or_imp, forall_eq, ne_eq, false_imp_iff, implies_true, and_true] at hF))
      go_wp2_with fail
      (go_at_call 72; apply own_at hO; (repeat (first | (with_reducible exact hO) | (with_reducible apply Own.alloc) | (with_reducible apply Own.drew) | ((with_reducible apply Own.set_at); (focus (show _ ≤ _; omega))))); have hG := hF; clear hF; clear hO; intro hO; refine own_call hO (fun hB => HB.out _ hB) ?_; clear hO; intro wb hO; (try simp only [World.size_alloc1, World.size_drew, Nat.reduceAdd] at hO); (try simp only [upd, updI, List.map_cons, List.map_nil, eq_self, if_true, if_false, reduceIte, Nat.add_eq_left, Nat.left_eq_add, Nat.reduceEqDiff, List.set_cons_zero, List.set_cons_succ, hG] at hO); clear hG; have hF := hO; (try simp only [Own, Item.Holds, apartI, CellsAt, Nat.reduceAdd, Nat.zero_add, List.mem_cons, List.not_mem_nil, or_false, forall_eq_or_imp, forall_eq, ne_eq, false_imp_iff, implies_true, and_true] at hF))
      go_wp2_with (go_at_call 76; apply own_at hO; (repeat (first | (with_reducible exact hO) | (with_reducible apply Own.alloc) | (with_reducible apply Own.drew) | ((with_reducible apply Own.set_at); (focus (show _ ≤ _; omega))))); have hG := hF; clear hF; clear hO; intro hO; refine own_call hO (fun hB => mtI_any _ _ _ _ _ _ _ _ _) ?_; clear hO; intro wc hO; (try simp only [World.size_alloc1, World.size_drew, Nat.reduceAdd] at hO); (try simp only [upd, updI, List.map_cons, List.map_nil, eq_self, if_true, if_false, reduceIte, Nat.add_eq_left, Nat.left_eq_add, Nat.reduceEqDiff, List.set_cons_zero, List.set_cons_succ, hG] at hO); clear hG; have hF := hO; (try simp only [Own, Item.Holds, apartI, CellsAt, Nat.reduceAdd, Nat.zero_add, List.mem_cons, List.not_mem_nil, or_false, forall_eq_or_imp, forall_eq, ne_eq, false_imp_iff, implies_true, and_true] at hF))
      (apply own_code hO; (repeat (first | (with_reducible exact hO) | (with_reducible apply Own.alloc) | (with_reducible apply Own.drew) | ((with_reducible apply Own.set_at); (focus (show _ ≤ _; omega))))); have hG := hF; clear hF; clear hO; intro hO; (try simp only [World.size_alloc1, World.size_drew, Nat.reduceAdd] at hO); (try simp only [upd, updI, List.map_cons, List.map_nil, eq_self, if_true, if_false, reduceIte, Nat.add_eq_left, Nat.left_eq_add, Nat.reduceEqDiff, List.set_cons_zero, List.set_cons_succ, hG] at hO); clear hG; have hF := hO; (try simp only [Own, Item.Holds, apartI, CellsAt, Nat.reduceAdd, Nat.zero_add, List.mem_cons, List.not_mem_nil, or_false, forall_eq_or_imp, forall_eq, ne_eq, false_imp_iff, implies_true, and_true] at hF))
      go_loopw [10, 35] (fun u t wr => ∃ (j : Nat) (f : Int), j ≤ 4 ∧ t = .int .i64 j ∧ u = .int .i64 f ∧ Hid (OKF f (QO a b j)) ∧ Own w.heap.size (Below w.heap.size w) wr [.blk wc.heap.size [.int .i64 a0, .int .i64 b0, .int .i64 a1, .int .i64 b1, .int .i64 a2, .int .i64 b2, .int .i64 a3, .int .i64 b3], .blk wb.heap.size [.int .i64 b0, .int .i64 b1, .int .i64 b2, .int .i64 b3], .blk wa.heap.size [.int .i64 a0, .int .i64 a1, .int .i64 a2, .int .i64 a3]]) (fun _ t _ => 4 - (intOf t).toNat)
      case atStart => exact ⟨0, 0, by omega, rfl, rfl, OKF.start (QO_zero a b), hO⟩
      case round =>
        clear hO hF
        obtain ⟨j, f, hj, rfl, rfl, hok, hO⟩ := hrel
        have hF := hO; (try simp only [Own, Item.Holds, apartI, CellsAt, Nat.reduceAdd, Nat.zero_add, List.mem_cons, List.not_mem_nil, or_false, forall_eq_or_imp, forall_eq, ne_eq, false_imp_iff, implies_true, and_true] at hF)
        by_cases he : j = 4
        · subst he
          have HE := hid (ok_mv HV.out hok.out)
          go_wp2_with fail
          go_ret
          exact ⟨ret_int HE.out.symm, Own.base (by first | exact hO | (repeat (first | (with_reducible exact hO) | (with_reducible apply Own.alloc) | (with_reducible apply Own.drew) | ((with_reducible apply Own.set_at); (focus (show _ ≤ _; omega))))))⟩
        · have hjl : j < 4 := by omega
          have hjl2 : (j : Int) < 4 := by omega
          have hj0 : (0 : Int) ≤ (j : Int) := by omega
          have hj4 : (j : Int) ≤ 4 := by omega
          obtain ⟨_, _, m3, m4⟩ := HM.out j hjl
          have hix := HX.out j hjl
          have br := k4_bd HV.out.1 hjl
          have bs := k4_bd HV.out.2 hjl
          obtain ⟨r, hr⟩ : ∃ r, k4 a j = r := ⟨_, rfl⟩
          obtain ⟨s, hsz⟩ : ∃ s, k4 b j = s := ⟨_, rfl⟩
          rw [m3, m4, hr, hsz] at hix
          rw [hr] at br
          rw [hsz] at bs
          have HRS := hid (And.intro hr hsz)
          clear he m3 m4 hr hsz
          go_wp2_with fail
          (apply own_code hO; (repeat (first | (with_reducible exact hO) | (with_reducible apply Own.alloc) | (with_reducible apply Own.drew) | ((with_reducible apply Own.set_at); (focus (show _ ≤ _; omega))))); have hG := hF; clear hF; clear hO; intro hO; (try simp only [World.size_alloc1, World.size_drew, Nat.reduceAdd] at hO); (try simp only [upd, updI, List.map_cons, List.map_nil, eq_self, if_true, if_false, reduceIte, Nat.add_eq_left, Nat.left_eq_add, Nat.reduceEqDiff, List.set_cons_zero, List.set_cons_succ, hG] at hO); clear hG; have hF := hO; (try simp only [Own, Item.Holds, apartI, CellsAt, Nat.reduceAdd, Nat.zero_add, List.mem_cons, List.not_mem_nil, or_false, forall_eq_or_imp, forall_eq, ne_eq, false_imp_iff, implies_true, and_true] at hF))
          go_loopw [10, 42] (fun u t ws => ∃ (m : Nat) (f : Int), m ≤ j ∧ t = .int .i64 m ∧ u = .int .i64 f ∧ Hid (OKF f (QI a b j m)) ∧ Own w.heap.size (Below w.heap.size w) ws [.blk wr.heap.size [.int .i64 r, .int .i64 s], .blk wc.heap.size [.int .i64 a0, .int .i64 b0, .int .i64 a1, .int .i64 b1, .int .i64 a2, .int .i64 b2, .int .i64 a3, .int .i64 b3], .blk wb.heap.size [.int .i64 b0, .int .i64 b1, .int .i64 b2, .int .i64 b3], .blk wa.heap.size [.int .i64 a0, .int .i64 a1, .int .i64 a2, .int .i64 a3]]) (fun _ t _ => j - (intOf t).toNat)
          case atStart => exact ⟨0, f, by omega, rfl, rfl, QI_zero hok.out, hO⟩
          case round =>
            clear hO hF hok
            obtain ⟨m, f2, hm, rfl, rfl, hok, hO⟩ := hrel
            have hF := hO; (try simp only [Own, Item.Holds, apartI, CellsAt, Nat.reduceAdd, Nat.zero_add, List.mem_cons, List.not_mem_nil, or_false, forall_eq_or_imp, forall_eq, ne_eq, false_imp_iff, implies_true, and_true] at hF)
            by_cases he : m = j
            · subst he
              obtain ⟨z, hz⟩ : ∃ z, leZ r s = z := ⟨_, rfl⟩
              have z0 := leZ_bd r s
              rw [hz] at z0
              obtain ⟨g, hg⟩ : ∃ g, eaZ f2 z = g := ⟨_, rfl⟩
              have HL := hid (fun W => leI_is (by omega) (by omega) (by omega) (by omega) hz W)
              have HG := hid (fun W => eaI_is hok.out.1 z0.1 hg W)
              have HU := hid (show OKF g (QO a b (m + 1)) from hg ▸ OKF.step hok.out z0.1 (fun x => by
                rw [QO_up]
                unfold leaZ
                rw [HRS.out.1, HRS.out.2, hz]))
              clear hz hg hok hm
              go_wp2_with (first | (go_at_call 79; apply own_at hO; (repeat (first | (with_reducible exact hO) | (with_reducible apply Own.alloc) | (with_reducible apply Own.drew) | ((with_reducible apply Own.set_at); (focus (show _ ≤ _; omega))))); have hG := hF; clear hF; clear hO; intro hO; refine own_call hO (fun hB => HL.out _) ?_; clear hO; intro w1 hO; (try simp only [World.size_alloc1, World.size_drew, Nat.reduceAdd] at hO); (try simp only [upd, updI, List.map_cons, List.map_nil, eq_self, if_true, if_false, reduceIte, Nat.add_eq_left, Nat.left_eq_add, Nat.reduceEqDiff, List.set_cons_zero, List.set_cons_succ, hG] at hO); clear hG; have hF := hO; (try simp only [Own, Item.Holds, apartI, CellsAt, Nat.reduceAdd, Nat.zero_add, List.mem_cons, List.not_mem_nil, or_false, forall_eq_or_imp, forall_eq, ne_eq, false_imp_iff, implies_true, and_true] at hF)) | (go_at_call 77; apply own_at hO; (repeat (first | (with_reducible exact hO) | (with_reducible apply Own.alloc) | (with_reducible apply Own.drew) | ((with_reducible apply Own.set_at); (focus (show _ ≤ _; omega))))); have hG := hF; clear hF; clear hO; intro hO; refine own_call hO (fun hB => HG.out _) ?_; clear hO; intro w1 hO; (try simp only [World.size_alloc1, World.size_drew, Nat.reduceAdd] at hO); (try simp only [upd, updI, List.map_cons, List.map_nil, eq_self, if_true, if_false, reduceIte, Nat.add_eq_left, Nat.left_eq_add, Nat.reduceEqDiff, List.set_cons_zero, List.set_cons_succ, hG] at hO); clear hG; have hF := hO; (try simp only [Own, Item.Holds, apartI, CellsAt, Nat.reduceAdd, Nat.zero_add, List.mem_cons, List.not_mem_nil, or_false, forall_eq_or_imp, forall_eq, ne_eq, false_imp_iff, implies_true, and_true] at hF)))
              go_roundw
              case rel => exact ⟨m + 1, g, by omega, by go_num, rfl, HU.out, Own.drop hO⟩
              case measure => simp [intOf]; omega
            · have hml : m < j := by omega
              have hml2 : (m : Int) < j := by omega
              have hm4 : m < 4 := by omega
              have hm0 : (0 : Int) ≤ (m : Int) := by omega
              obtain ⟨m1, m2, _, _⟩ := HM.out m hm4
              have bp := k4_bd HV.out.1 hm4
              have bq := k4_bd HV.out.2 hm4
              obtain ⟨p, hp⟩ : ∃ r, k4 a m = r := ⟨_, rfl⟩
              obtain ⟨q, hq⟩ : ∃ s, k4 b m = s := ⟨_, rfl⟩
              rw [hp] at m1 bp
              rw [hq] at m2 bq
              have c0 := own_ints [a0, b0, a1, b1, a2, b2, a3, b3] hO (List.mem_cons_of_mem _ List.mem_cons_self) m1
              have c1 := own_ints [a0, b0, a1, b1, a2, b2, a3, b3] hO (List.mem_cons_of_mem _ List.mem_cons_self) m2
              obtain ⟨z, hz⟩ : ∃ z, prZ p q r s = z := ⟨_, rfl⟩
              have z0 := prZ_bd p q r s
              rw [hz] at z0
              obtain ⟨g, hg⟩ : ∃ g, eaZ f2 z = g := ⟨_, rfl⟩
              have HP := hid (fun W => prI_is (by omega) (by omega) (by omega) (by omega) (by omega) (by omega) (by omega) (by omega) hz W)
              have HG := hid (fun W => eaI_is hok.out.1 z0.1 hg W)
              have HU := hid (show OKF g (QI a b j (m + 1)) from hg ▸ OKF.step hok.out z0.1 (fun x => by
                rw [QI_up]
                unfold parZ
                rw [HRS.out.1, HRS.out.2, hp, hq, hz]))
              clear hz hg hok hp hq m1 m2 he hm
              go_wp2_with (first | (go_at_call 78; apply own_at hO; (repeat (first | (with_reducible exact hO) | (with_reducible apply Own.alloc) | (with_reducible apply Own.drew) | ((with_reducible apply Own.set_at); (focus (show _ ≤ _; omega))))); have hG := hF; clear hF; clear hO; intro hO; refine own_call hO (fun hB => HP.out _) ?_; clear hO; intro w1 hO; (try simp only [World.size_alloc1, World.size_drew, Nat.reduceAdd] at hO); (try simp only [upd, updI, List.map_cons, List.map_nil, eq_self, if_true, if_false, reduceIte, Nat.add_eq_left, Nat.left_eq_add, Nat.reduceEqDiff, List.set_cons_zero, List.set_cons_succ, hG] at hO); clear hG; have hF := hO; (try simp only [Own, Item.Holds, apartI, CellsAt, Nat.reduceAdd, Nat.zero_add, List.mem_cons, List.not_mem_nil, or_false, forall_eq_or_imp, forall_eq, ne_eq, false_imp_iff, implies_true, and_true] at hF)) | (go_at_call 77; apply own_at hO; (repeat (first | (with_reducible exact hO) | (with_reducible apply Own.alloc) | (with_reducible apply Own.drew) | ((with_reducible apply Own.set_at); (focus (show _ ≤ _; omega))))); have hG := hF; clear hF; clear hO; intro hO; refine own_call hO (fun hB => HG.out _) ?_; clear hO; intro w1 hO; (try simp only [World.size_alloc1, World.size_drew, Nat.reduceAdd] at hO); (try simp only [upd, updI, List.map_cons, List.map_nil, eq_self, if_true, if_false, reduceIte, Nat.add_eq_left, Nat.left_eq_add, Nat.reduceEqDiff, List.set_cons_zero, List.set_cons_succ, hG] at hO); clear hG; have hF := hO; (try simp only [Own, Item.Holds, apartI, CellsAt, Nat.reduceAdd, Nat.zero_add, List.mem_cons, List.not_mem_nil, or_false, forall_eq_or_imp, forall_eq, ne_eq, false_imp_iff, implies_true, and_true] at hF)))
              go_roundw
              case rel => exact ⟨m + 1, g, by omega, by go_num, rfl, HU.out, Own.drop hO⟩
              case measure => simp [intOf]; omega
theorem mvI_C (w : World) (hT : TabH w) : CMv 35 w := fun va vb a b W hW hs ht hn hm _ _ => mvI_any va vb a b W (hT.below hW) hs ht hn hm

/- Chapter 12 in the program: PartsFaults. -/
open Go.RowKit Go.Joins

theorem stI_is {va : Value} {l : List Pt} {n : Nat} {s : Int} {w : World} (hT : TabH w) (hV : TabV w) (hn : l.length = n) (h9 : n ≤ 1048576) (hz : stZ l = s) (hs : SlAt w va n 3 (pcC l)) (W : World) (hW : Below w.heap.size w W) :
    Calls Tryd.prog 34 #[va] W fun e w' => e = .returned (.int .i64 s) ∧ Below W.heap.size W w' := by
  subst hn hz; exact stI_any va l W (hT.below hW) (hV.below hW) (hs.below hW) h9
theorem mvI_is {va vb : Value} {a b : List Pt} {n m : Nat} {z : Int} {w : World} (hT : TabH w) (hn : a.length = n) (hm : b.length = m) (hn9 : n ≤ 1048576) (hm9 : m ≤ 1048576) (hz : mvZ a b = z) (ha : SlAt w va n 3 (pcC a)) (hb : SlAt w vb m 3 (pcC b)) (W : World) (hW : Below w.heap.size w W) :
    Calls Tryd.prog 35 #[va, vb] W fun e w' => e = .returned (.int .i64 z) ∧ Below W.heap.size W w' := by
  subst hn hm hz; exact mvI_any va vb a b W (hT.below hW) (ha.below hW) (hb.below hW) hn9 hm9

set_option maxRecDepth 20000 in
set_option maxHeartbeats 8000000 in
theorem piI_any (va : Value) (ll : List (List Pt)) (w : World) (h : StkR w va ll) (hn : ll.length ≤ 1048576) (hle : ∀ l ∈ ll, l.length ≤ 1048576) (hT : TabH w) (hV : TabV w) :
    Calls Tryd.prog 32 #[va] w (RowOut 36 2 (paZ ll).length (tnC (paZ ll)) w) := by
  have hO := Own.start w
  have hF := True.intro
  have hTH := hid hT
  have hTV := hid hV
  clear hT hV
  obtain ⟨A, c, rfl, nb, hA⟩ := h.open
  obtain ⟨n, hnl⟩ : ∃ n, ll.length = n := ⟨_, rfl⟩
  have HN := hid hnl
  have HLE := hid hle
  rw [hnl] at hn nb hA ⊢
  clear h hle
  by_cases h8 : n ≤ 8
  · have h8' : (n : Int) ≤ 8 := by omega
    have HE := hid (show paZ ll = paF ll n by unfold paZ; rw [hnl, if_pos h8])
    clear hnl
    go_enter Tryd.func32, Tryd.ntmps32
    go_wp2_with fail
    go_loopw [3, 11] (fun u t wr => ∃ k : Nat, k ≤ n ∧ t = .int .i64 k ∧ Own w.heap.size (Below w.heap.size w) wr [.row 36 2 u (paF ll k).length (tnC (paF ll k))]) (fun _ t _ => n - (intOf t).toNat)
    case atStart => exact ⟨0, by omega, rfl, Own.nilRow 36 2 hO⟩
    case round =>
      clear hO hF
      obtain ⟨k, hk, rfl, hO⟩ := hrel
      have hF := hO; (try simp only [Own, Item.Holds, apartI, CellsAt, Nat.reduceAdd, Nat.zero_add, List.mem_cons, List.not_mem_nil, or_false, forall_eq_or_imp, forall_eq, ne_eq, false_imp_iff, implies_true, and_true] at hF)
      by_cases he : k = n
      · subst he
        go_wp2_with fail
        go_ret
        rw [HE.out]
        exact RowOut.mk hO
      · have hkl : k < n := by omega
        have hkl2 : (k : Int) < n := by omega
        have hk0 : (0 : Int) ≤ (k : Int) := by omega
        obtain ⟨b, off, rfl, hc1, hc2, hb, hcell⟩ := hA (by omega)
        obtain ⟨l, hl⟩ : ∃ l, ll[k]? = some l := ⟨_, List.getElem?_eq_getElem (by have := HN.out; omega)⟩
        obtain ⟨A1, c1, hs1, d1⟩ := hcell k l hl
        have hll := HLE.out l (List.mem_of_getElem? hl)
        obtain ⟨n1, hn1⟩ : ∃ n, l.length = n := ⟨_, rfl⟩
        rw [hn1] at hs1 d1 hll
        obtain ⟨s, hs⟩ : ∃ s, stZ l = s := ⟨_, rfl⟩
        have HS1 := hid (stI_is hTH.out hTV.out hn1 hll hs hs1)
        have HD1 := hid (fun W (hW : Below w.heap.size w W) => ((bcell hW).1 b (off + k) hb).trans d1)
        have hql := paF_len ll k
        rcases (show k = 0 ∨ ∃ p, k = p + 1 by cases k with | zero => exact Or.inl rfl | succ p => exact Or.inr ⟨p, rfl⟩) with rfl | ⟨p, rfl⟩
        · have HU := hid (show paF ll (0 + 1) = wfL (paF ll 0) ((0 : Nat) : Int) s from pa_first hl hs)
          obtain ⟨us, hus⟩ : ∃ q, paF ll 0 = q := ⟨_, rfl⟩
          rw [hus] at hO hql HU
          have e1 := HD1.out _ hO.base
          rw [Nat.add_zero] at e1
          have hu9 : us.length ≤ 1000000000 := by omega
          clear he hl hcell hs1 d1 hs hus hn1
          go_wp2_with (first | (go_at_call 34; apply own_at hO; (repeat (first | (with_reducible exact hO) | (with_reducible apply Own.alloc) | (with_reducible apply Own.drew) | ((with_reducible apply Own.set_at); (focus (show _ ≤ _; omega))))); have hG := hF; clear hF; clear hO; intro hO; refine own_call hO (fun hB => HS1.out _ hB) ?_; clear hO; intro w1 hO; (try simp only [World.size_alloc1, World.size_drew, Nat.reduceAdd] at hO); (try simp only [upd, updI, List.map_cons, List.map_nil, eq_self, if_true, if_false, reduceIte, Nat.add_eq_left, Nat.left_eq_add, Nat.reduceEqDiff, List.set_cons_zero, List.set_cons_succ, hG] at hO); clear hG; have hF := hO; (try simp only [Own, Item.Holds, apartI, CellsAt, Nat.reduceAdd, Nat.zero_add, List.mem_cons, List.not_mem_nil, or_false, forall_eq_or_imp, forall_eq, ne_eq, false_imp_iff, implies_true, and_true] at hF)) | (go_at_call 69; apply own_at hO; (repeat (first | (with_reducible exact hO) | (with_reducible apply Own.alloc) | (with_reducible apply Own.drew) | ((with_reducible apply Own.set_at); (focus (show _ ≤ _; omega))))); have hG := hF; clear hF; clear hO; intro hO; (try simp only [World.size_alloc1, World.size_drew, Nat.reduceAdd] at hO); (try simp only [upd, updI, List.map_cons, List.map_nil, eq_self, if_true, if_false, reduceIte, Nat.add_eq_left, Nat.left_eq_add, Nat.reduceEqDiff, List.set_cons_zero, List.set_cons_succ, hG] at hO); clear hG; skip; refine own_callE hO (fun hW => wfI_own _ _ _ _ hu9 hW) ?_; clear hO; rintro v L' w1 rfl hO; (try simp only [World.size_alloc1, World.size_drew, Nat.reduceAdd] at hO); (try simp only [upd, updI, List.map_cons, List.map_nil, eq_self, if_true, if_false, reduceIte, Nat.add_eq_left, Nat.left_eq_add, Nat.reduceEqDiff, List.set_cons_zero, List.set_cons_succ] at hO); have hF := hO; (try simp only [Own, Item.Holds, apartI, CellsAt, Nat.reduceAdd, Nat.zero_add, List.mem_cons, List.not_mem_nil, or_false, forall_eq_or_imp, forall_eq, ne_eq, false_imp_iff, implies_true, and_true] at hF)))
          go_roundw
          case rel => exact ⟨0 + 1, by omega, by go_num, by rw [HU.out]; exact hO⟩
          case measure => simp [intOf]; omega
        · obtain ⟨l', hl'⟩ : ∃ l, ll[p]? = some l := ⟨_, List.getElem?_eq_getElem (by have := HN.out; omega)⟩
          obtain ⟨A2, c2, hs2', d2⟩ := hcell p l' hl'
          have hll' := HLE.out l' (List.mem_of_getElem? hl')
          obtain ⟨n2, hn2⟩ : ∃ n, l'.length = n := ⟨_, rfl⟩
          rw [hn2] at hs2' d2 hll'
          obtain ⟨m, hm⟩ : ∃ m, mvZ l' l = m := ⟨_, rfl⟩
          have HM := hid (mvI_is hTH.out hn2 hn1 hll' hll hm hs2' hs1)
          have HD2 := hid (fun W (hW : Below w.heap.size w W) => ((bcell hW).1 b (off + p) hb).trans d2)
          have hc : (((p + 1 : Nat)) : Int) = (p : Int) + 1 := by omega
          have HU := hid (show paF ll (p + 1 + 1) = wfL (wfL (paF ll (p + 1)) ((p : Int) + 1) s) ((p : Int) + 1) m by
            rw [← hc]; unfold wfL; rw [List.append_assoc]; exact pa_next hl' hl hs hm)
          have p0 : (0 : Int) ≤ (p : Int) := by omega
          have p1 : (0 : Int) < (p : Int) + 1 := by omega
          have p2 : (p : Int) < (n : Int) := by omega
          have p3 : (p : Int) + 1 < (n : Int) := by omega
          have p4 : (0 : Int) ≤ (p : Int) + 1 := by omega
          have wi : IntKind.i64.wrap ((p : Int) + 1 - 1) = (p : Int) := by rw [show (p : Int) + 1 - 1 = (p : Int) by omega]; exact IntWalk.i64_in _ (by omega)
          have wi2 : IntKind.i64.wrap (p : Int) = (p : Int) := IntWalk.i64_in _ (by omega)
          have wj : IntKind.i64.wrap ((p : Int) + 1 + 1) = (p : Int) + 1 + 1 := IntWalk.i64_in _ (by omega)
          obtain ⟨us, hus⟩ : ∃ q, paF ll (p + 1) = q := ⟨_, rfl⟩
          rw [hus] at hO hql HU
          have e1 := HD1.out _ hO.base
          have hu9 : us.length ≤ 1000000000 := by omega
          have hu8 := wf_len us ((p : Int) + 1) s
          have hu7 : (wfL us ((p : Int) + 1) s).length ≤ 1000000000 := by omega
          clear hc he hl hl' hcell hs1 hs2' d1 d2 hs hm hus hn1 hn2 hu8
          go_wp2_with (first | ((go_at_call 34; apply own_at hO; (repeat (first | (with_reducible exact hO) | (with_reducible apply Own.alloc) | (with_reducible apply Own.drew) | ((with_reducible apply Own.set_at); (focus (show _ ≤ _; omega))))); have hG := hF; clear hF; clear hO; intro hO; refine own_call hO (fun hB => HS1.out _ hB) ?_; clear hO; intro w1 hO; (try simp only [World.size_alloc1, World.size_drew, Nat.reduceAdd] at hO); (try simp only [upd, updI, List.map_cons, List.map_nil, eq_self, if_true, if_false, reduceIte, Nat.add_eq_left, Nat.left_eq_add, Nat.reduceEqDiff, List.set_cons_zero, List.set_cons_succ, hG] at hO); clear hG; have hF := hO; (try simp only [Own, Item.Holds, apartI, CellsAt, Nat.reduceAdd, Nat.zero_add, List.mem_cons, List.not_mem_nil, or_false, forall_eq_or_imp, forall_eq, ne_eq, false_imp_iff, implies_true, and_true] at hF)); clear HS1) | ((go_at_call 69; apply own_at hO; (repeat (first | (with_reducible exact hO) | (with_reducible apply Own.alloc) | (with_reducible apply Own.drew) | ((with_reducible apply Own.set_at); (focus (show _ ≤ _; omega))))); have hG := hF; clear hF; clear hO; intro hO; (try simp only [World.size_alloc1, World.size_drew, Nat.reduceAdd] at hO); (try simp only [upd, updI, List.map_cons, List.map_nil, eq_self, if_true, if_false, reduceIte, Nat.add_eq_left, Nat.left_eq_add, Nat.reduceEqDiff, List.set_cons_zero, List.set_cons_succ, hG] at hO); clear hG; skip; refine own_callE hO (fun hW => wfI_own _ _ _ _ hu9 hW) ?_; clear hO; rintro v L' w1 rfl hO; (try simp only [World.size_alloc1, World.size_drew, Nat.reduceAdd] at hO); (try simp only [upd, updI, List.map_cons, List.map_nil, eq_self, if_true, if_false, reduceIte, Nat.add_eq_left, Nat.left_eq_add, Nat.reduceEqDiff, List.set_cons_zero, List.set_cons_succ] at hO); have hF := hO; (try simp only [Own, Item.Holds, apartI, CellsAt, Nat.reduceAdd, Nat.zero_add, List.mem_cons, List.not_mem_nil, or_false, forall_eq_or_imp, forall_eq, ne_eq, false_imp_iff, implies_true, and_true] at hF)); clear hu9; have e2 := HD2.out _ hO.base) | ((go_at_call 35; apply own_at hO; (repeat (first | (with_reducible exact hO) | (with_reducible apply Own.alloc) | (with_reducible apply Own.drew) | ((with_reducible apply Own.set_at); (focus (show _ ≤ _; omega))))); have hG := hF; clear hF; clear hO; intro hO; refine own_call hO (fun hB => HM.out _ hB) ?_; clear hO; intro w1 hO; (try simp only [World.size_alloc1, World.size_drew, Nat.reduceAdd] at hO); (try simp only [upd, updI, List.map_cons, List.map_nil, eq_self, if_true, if_false, reduceIte, Nat.add_eq_left, Nat.left_eq_add, Nat.reduceEqDiff, List.set_cons_zero, List.set_cons_succ, hG] at hO); clear hG; have hF := hO; (try simp only [Own, Item.Holds, apartI, CellsAt, Nat.reduceAdd, Nat.zero_add, List.mem_cons, List.not_mem_nil, or_false, forall_eq_or_imp, forall_eq, ne_eq, false_imp_iff, implies_true, and_true] at hF)); clear HM) | (go_at_call 69; apply own_at hO; (repeat (first | (with_reducible exact hO) | (with_reducible apply Own.alloc) | (with_reducible apply Own.drew) | ((with_reducible apply Own.set_at); (focus (show _ ≤ _; omega))))); have hG := hF; clear hF; clear hO; intro hO; (try simp only [World.size_alloc1, World.size_drew, Nat.reduceAdd] at hO); (try simp only [upd, updI, List.map_cons, List.map_nil, eq_self, if_true, if_false, reduceIte, Nat.add_eq_left, Nat.left_eq_add, Nat.reduceEqDiff, List.set_cons_zero, List.set_cons_succ, hG] at hO); clear hG; skip; refine own_callE hO (fun hW => wfI_own _ _ _ _ hu7 hW) ?_; clear hO; rintro v L' w1 rfl hO; (try simp only [World.size_alloc1, World.size_drew, Nat.reduceAdd] at hO); (try simp only [upd, updI, List.map_cons, List.map_nil, eq_self, if_true, if_false, reduceIte, Nat.add_eq_left, Nat.left_eq_add, Nat.reduceEqDiff, List.set_cons_zero, List.set_cons_succ] at hO); have hF := hO; (try simp only [Own, Item.Holds, apartI, CellsAt, Nat.reduceAdd, Nat.zero_add, List.mem_cons, List.not_mem_nil, or_false, forall_eq_or_imp, forall_eq, ne_eq, false_imp_iff, implies_true, and_true] at hF)))
          go_roundw
          case rel => exact ⟨p + 1 + 1, by omega, by go_num, by rw [HU.out]; exact hO⟩
          case measure => simp [intOf]; omega
  · have h8' : ¬ (n : Int) ≤ 8 := by omega
    have HE := hid (show paZ ll = [] by unfold paZ; rw [hnl, if_neg h8])
    clear hnl
    go_enter Tryd.func32, Tryd.ntmps32
    go_wp2_with fail
    go_ret
    rw [HE.out]
    exact RowOut.mk (Own.nilRow 36 2 hO)
theorem paI_C (w : World) (hT : TabH w) (hV : TabV w) : CPa 32 w := fun va ll W hW hs hn hle _ => piI_any va ll W hs hn hle (hT.below hW) (hV.below hW)
end Go.Proofs.YtfdglkiehkilnaaDoor
