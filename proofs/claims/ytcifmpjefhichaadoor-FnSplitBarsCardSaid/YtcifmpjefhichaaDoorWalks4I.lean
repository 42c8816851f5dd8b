/- Chapter 4 in the program: the tables of bases and dots; values and their ticks. -/
import Derived.Test.YtcifmpjefhichaaDoorWalks4S
import Derived.Test.YtcifmpjefhichaaDoorWalksKey
namespace Go.Proofs.YtcifmpjefhichaaDoor
set_option linter.unusedSimpArgs false
set_option linter.unusedVariables false
open Go.RowKit Go.Joins

/-- A call that turns nothing leaves what lies below. -/
theorem still {P : Program} {f : FuncId} {args : Array Value} {w : World} {v : Value} (h : Calls P f args w fun e w' => e = .returned v ∧ w = w') : Calls P f args w fun e w' => e = .returned v ∧ Below w.heap.size w w' :=
  h.mono fun _ _ ⟨he, hw⟩ => ⟨he, hw ▸ Below.refl _ _⟩

def basL : List Int := [1, 2, 4, 8, 16]
def dotL : List Int := [4, 6, 7]
/-- The tables of bases and of dots lie as the text lays them. -/
def TabB (w : World) : Prop := Lib.TabIs Tryd.prog w "loop.example/musicengine/impl.valueBases" .i64 basL
def TabD (w : World) : Prop := Lib.TabIs Tryd.prog w "loop.example/musicengine/impl.dotQuarters" .i64 dotL
theorem gB : Tryd.prog.globalNamed "loop.example/musicengine/impl.valueBases" = some 1 := by kernel_rfl
theorem TabB.below {w w' : World} (h : TabB w) (hb : Below w.heap.size w w') : TabB w' := tab_stays gB h hb (Nat.le_refl _)
theorem TabB.cell {w : World} (h : TabB w) {k : Nat} (h5 : k < 5) : w.cell? ⟨1, k, none⟩ = some (.int .i64 (pw k)) := by
  rw [Lib.TabIs.cell h gB k (by simp [basL]; omega)]
  obtain rfl | rfl | rfl | rfl | rfl : k = 0 ∨ k = 1 ∨ k = 2 ∨ k = 3 ∨ k = 4 := by omega
  all_goals rfl
/-- The array of bases, by value: its element at a known place. -/
theorem idx_bas (k : Nat) (h5 : k < 5) (w : World) :
    (Instr.index 84 (.agg #[.int .i64 1, .int .i64 2, .int .i64 4, .int .i64 8, .int .i64 16]) (.int .i64 k)).run Tryd.prog w = .ok (.int .i64 (pw k)) w := by
  obtain rfl | rfl | rfl | rfl | rfl : k = 0 ∨ k = 1 ∨ k = 2 ∨ k = 3 ∨ k = 4 := by omega
  all_goals kernel_rfl
theorem base_hit {b : Int} {k : Nat} (h5 : k < 5) (h : b = pw k) : baseB b = true := by
  subst h
  obtain rfl | rfl | rfl | rfl | rfl : k = 0 ∨ k = 1 ∨ k = 2 ∨ k = 3 ∨ k = 4 := by omega
  all_goals decide
theorem base_miss {b : Int} (h : ∀ k : Nat, k < 5 → b ≠ pw k) : baseB b = false := by
  rw [← Bool.not_eq_true, baseB_iff]
  rintro (rfl | rfl | rfl | rfl | rfl)
  · exact h 0 (by omega) rfl
  · exact h 1 (by omega) rfl
  · exact h 2 (by omega) rfl
  · exact h 3 (by omega) rfl
  · exact h 4 (by omega) rfl

set_option maxHeartbeats 1000000 in
theorem bvI_any (b : Int) (w : World) (hT : TabB w) :
    Calls Tryd.prog 47 #[.int .i64 b] w fun e w' => e = .returned (.bool (baseB b)) ∧ w = w' := by
  have c0 := hT.cell (k := 0) (by omega)
  have c1 := hT.cell (k := 1) (by omega)
  have c2 := hT.cell (k := 2) (by omega)
  have c3 := hT.cell (k := 3) (by omega)
  have c4 := hT.cell (k := 4) (by omega)
  rw [show pw 0 = 1 by decide] at c0
  rw [show pw 1 = 2 by decide] at c1
  rw [show pw 2 = 4 by decide] at c2
  rw [show pw 3 = 8 by decide] at c3
  rw [show pw 4 = 16 by decide] at c4
  go_enter Tryd.func47, Tryd.ntmps47
  go_wp2
  go_loop [4, 6] (fun _ i => ∃ k : Nat, k ≤ 5 ∧ i = .int .i64 k ∧ Hid (∀ j : Nat, j < k → b ≠ pw j)) (fun _ i => (5 - intOf i).toNat)
  case atStart => exact ⟨0, by omega, rfl, fun j hj => by omega⟩
  case round =>
    obtain ⟨k, hk, rfl, hN⟩ := hrel
    clear hT c0 c1 c2 c3 c4
    by_cases h5 : k = 5
    · subst h5
      go_wp2
      go_ret
      exact ⟨ret_bool (base_miss fun j hj => hN.out j hj).symm, rfl⟩
    · have hlt : k < 5 := by omega
      have hl2 : (k : Int) < 5 := by omega
      have hi : ∀ w' : World, (Instr.index 84 (.agg #[.int .i64 1, .int .i64 2, .int .i64 4, .int .i64 8, .int .i64 16]) (.int .i64 k)).run Tryd.prog w' = .ok (.int .i64 (pw k)) w' := idx_bas k hlt
      obtain ⟨p, hp⟩ : ∃ p, pw k = p := ⟨_, rfl⟩
      rw [hp] at hi
      clear h5 hk
      by_cases hb : b = p
      · have HB := hid (base_hit hlt (hb.trans hp.symm))
        subst hb
        clear hp
        go_wp2
        go_ret
        exact ⟨ret_bool HB.out.symm, rfl⟩
      · have HN := hid (show ∀ j : Nat, j < k + 1 → b ≠ pw j from fun j hj => by
          rcases (show j < k ∨ j = k by omega) with h | rfl
          · exact hN.out j h
          · rw [hp]; exact hb)
        clear hp
        go_wp2
        go_round
        case rel => exact ⟨k + 1, by omega, by go_num, HN⟩
        case measure => simp [intOf]; omega
theorem bvI_is {b : Int} {x : Bool} (w : World) (hT : TabB w) (h : baseB b = x) : Calls Tryd.prog 47 #[.int .i64 b] w fun e w' => e = .returned (.bool x) ∧ w = w' := by subst h; exact bvI_any b w hT

theorem vvB_parts (b d t : Int) : vvB b d t = (baseB b && (decide (0 ≤ d) && decide (d ≤ 2)) && (t == 1 || t == 3)) := rfl

set_option maxHeartbeats 1000000 in
theorem vvI_any (b d t : Int) (w : World) (hT : TabB w) :
    Calls Tryd.prog 51 #[.agg #[.int .i64 b, .int .i64 d, .int .i64 t]] w fun e w' => e = .returned (.bool (vvB b d t)) ∧ Below w.heap.size w w' := by
  have hO := Own.start w
  have hF := True.intro
  obtain ⟨x, hx⟩ : ∃ x, baseB b = x := ⟨_, rfl⟩
  have HX := hid hx
  clear hx
  have HT := hid hT
  clear hT
  cases x
  · go_enter Tryd.func51, Tryd.ntmps51
    go_wp2_with (go_at_call 47; apply own_at hO; (repeat (first | (with_reducible exact hO) | (with_reducible apply Own.alloc) | (with_reducible apply Own.drew) | ((with_reducible apply Own.set_at); (focus (show _ ≤ _; omega))))); have hG := hF; clear hF; clear hO; intro hO; refine own_call hO (fun hB => still (bvI_is _ (HT.out.below hB) HX.out)) ?_; clear hO; intro w1 hO; (try simp only [World.size_alloc1, World.size_drew, Nat.reduceAdd] at hO); (try simp only [upd, updI, List.map_cons, List.map_nil, eq_self, if_true, if_false, reduceIte, Nat.add_eq_left, Nat.left_eq_add, Nat.reduceEqDiff, List.set_cons_zero, List.set_cons_succ, hG] at hO); clear hG; have hF := hO; (try simp only [Own, Item.Holds, apartI, CellsAt, Nat.reduceAdd, Nat.zero_add, List.mem_cons, List.not_mem_nil, or_false, forall_eq_or_imp, forall_eq, ne_eq, false_imp_iff, implies_true, and_true] at hF))
    all_goals
      go_ret
      exact ⟨ret_bool (by rw [vvB_parts, HX.out]; simp), Own.base (by (repeat (first | (with_reducible exact hO) | (with_reducible apply Own.alloc) | (with_reducible apply Own.drew) | ((with_reducible apply Own.set_at); (focus (show _ ≤ _; omega))))))⟩
  · go_enter Tryd.func51, Tryd.ntmps51
    go_wp2_with (go_at_call 47; apply own_at hO; (repeat (first | (with_reducible exact hO) | (with_reducible apply Own.alloc) | (with_reducible apply Own.drew) | ((with_reducible apply Own.set_at); (focus (show _ ≤ _; omega))))); have hG := hF; clear hF; clear hO; intro hO; refine own_call hO (fun hB => still (bvI_is _ (HT.out.below hB) HX.out)) ?_; clear hO; intro w1 hO; (try simp only [World.size_alloc1, World.size_drew, Nat.reduceAdd] at hO); (try simp only [upd, updI, List.map_cons, List.map_nil, eq_self, if_true, if_false, reduceIte, Nat.add_eq_left, Nat.left_eq_add, Nat.reduceEqDiff, List.set_cons_zero, List.set_cons_succ, hG] at hO); clear hG; have hF := hO; (try simp only [Own, Item.Holds, apartI, CellsAt, Nat.reduceAdd, Nat.zero_add, List.mem_cons, List.not_mem_nil, or_false, forall_eq_or_imp, forall_eq, ne_eq, false_imp_iff, implies_true, and_true] at hF))
    all_goals go_ret
    all_goals exact ⟨ret_bool (by rw [vvB_parts, HX.out, Bool.eq_iff_iff]; simp; omega), Own.base (by (repeat (first | (with_reducible exact hO) | (with_reducible apply Own.alloc) | (with_reducible apply Own.drew) | ((with_reducible apply Own.set_at); (focus (show _ ≤ _; omega))))))⟩

theorem gD : Tryd.prog.globalNamed "loop.example/musicengine/impl.dotQuarters" = some 0 := by kernel_rfl
theorem TabD.below {w w' : World} (h : TabD w) (hb : Below w.heap.size w w') : TabD w' := tab_stays gD h hb (Nat.le_refl _)
theorem TabD.cell {w : World} (h : TabD w) (k : Nat) (h3 : k < 3) : w.cell? ⟨0, k, none⟩ = some (.int .i64 (dotL.getD k 0)) := by
  rw [Lib.TabIs.cell h gD k (by simp [dotL]; omega)]

set_option maxHeartbeats 2000000 in
theorem ttI_any (b d t : Int) (w : World) (hT : TabB w) (hD : TabD w) :
    Calls Tryd.prog 22 #[.agg #[.int .i64 b, .int .i64 d, .int .i64 t]] w fun e w' => e = .returned (.int .i64 (ttZ b d t)) ∧ Below w.heap.size w w' := by
  have hO := Own.start w
  have hF := True.intro
  cases hv : vvB b d t
  · have HE := hid (show ttZ b d t = -1 by simp [ttZ, hv])
    have HV := hid hv
    have HI := hid (show ∀ W, Below w.heap.size w W → Calls Tryd.prog 51 #[.agg #[.int .i64 b, .int .i64 d, .int .i64 t]] W fun e w' => e = .returned (.bool false) ∧ Below W.heap.size W w' from fun W hW => by have := vvI_any b d t W (hT.below hW); rwa [hv] at this)
    clear hv
    go_enter Tryd.func22, Tryd.ntmps22
    go_wp2_with (go_at_call 51; apply own_at hO; (repeat (first | (with_reducible exact hO) | (with_reducible apply Own.alloc) | (with_reducible apply Own.drew) | ((with_reducible apply Own.set_at); (focus (show _ ≤ _; omega))))); have hG := hF; clear hF; clear hO; intro hO; refine own_call hO (fun hB => HI.out _ hB) ?_; clear hO; intro w1 hO; (try simp only [World.size_alloc1, World.size_drew, Nat.reduceAdd] at hO); (try simp only [upd, updI, List.map_cons, List.map_nil, eq_self, if_true, if_false, reduceIte, Nat.add_eq_left, Nat.left_eq_add, Nat.reduceEqDiff, List.set_cons_zero, List.set_cons_succ, hG] at hO); clear hG; have hF := hO; (try simp only [Own, Item.Holds, apartI, CellsAt, Nat.reduceAdd, Nat.zero_add, List.mem_cons, List.not_mem_nil, or_false, forall_eq_or_imp, forall_eq, ne_eq, false_imp_iff, implies_true, and_true] at hF))
    go_ret
    exact ⟨ret_int HE.out.symm, Own.base (by (repeat (first | (with_reducible exact hO) | (with_reducible apply Own.alloc) | (with_reducible apply Own.drew) | ((with_reducible apply Own.set_at); (focus (show _ ≤ _; omega))))))⟩
  · have HI := hid (show ∀ W, Below w.heap.size w W → Calls Tryd.prog 51 #[.agg #[.int .i64 b, .int .i64 d, .int .i64 t]] W fun e w' => e = .returned (.bool true) ∧ Below W.heap.size W w' from fun W hW => by have := vvI_any b d t W (hT.below hW); rwa [hv] at this)
    have HT := hid (show ttZ b d t = tickZ b d t by simp [ttZ, hv])
    obtain ⟨hb, hd, ht⟩ := vvB_iff.1 hv
    have hd' : d = 0 ∨ d = 1 ∨ d = 2 := by omega
    clear hv hd
    have HD := hid hD
    clear hD
    rcases hb with rfl | rfl | rfl | rfl | rfl <;> rcases hd' with rfl | rfl | rfl <;> rcases ht with rfl | rfl
    all_goals
      go_enter Tryd.func22, Tryd.ntmps22
      go_wp2_with (go_at_call 51; apply own_at hO; (repeat (first | (with_reducible exact hO) | (with_reducible apply Own.alloc) | (with_reducible apply Own.drew) | ((with_reducible apply Own.set_at); (focus (show _ ≤ _; omega))))); have hG := hF; clear hF; clear hO; intro hO; refine own_call hO (fun hB => HI.out _ hB) ?_; clear hO; intro w1 hO; (try simp only [World.size_alloc1, World.size_drew, Nat.reduceAdd] at hO); (try simp only [upd, updI, List.map_cons, List.map_nil, eq_self, if_true, if_false, reduceIte, Nat.add_eq_left, Nat.left_eq_add, Nat.reduceEqDiff, List.set_cons_zero, List.set_cons_succ, hG] at hO); clear hG; have hF := hO; (try simp only [Own, Item.Holds, apartI, CellsAt, Nat.reduceAdd, Nat.zero_add, List.mem_cons, List.not_mem_nil, or_false, forall_eq_or_imp, forall_eq, ne_eq, false_imp_iff, implies_true, and_true] at hF))
      apply own_code hO
      (repeat (first | (with_reducible exact hO) | (with_reducible apply Own.alloc) | (with_reducible apply Own.drew) | ((with_reducible apply Own.set_at); (focus (show _ ≤ _; omega)))))
      have hG := hF; clear hF; clear hO; intro hO
      (try simp only [World.size_alloc1, World.size_drew, Nat.reduceAdd] at hO); (try simp only [upd, updI, List.map_cons, List.map_nil, eq_self, if_true, if_false, reduceIte, Nat.add_eq_left, Nat.left_eq_add, Nat.reduceEqDiff, List.set_cons_zero, List.set_cons_succ, hG] at hO); clear hG
      refine region_own (X := fun _ => True) [] (by kernel_rfl) (hO) (trivial) (by first | exact XStab.true | exact XStab.rd | exact XStab.rdIf) ?_
      clear hO
      refine Sim.takeP (i := 0) (d := some 7) (v := ?_) rfl rfl (by kernel_rfl) (by kernel_rfl) (by kernel_rfl) (fun _ _ _ h => h) (by first | exact XStab.true | exact XStab.rd | exact XStab.rdIf) ?_ ?_
      rotate_left
      · first | refine Or.inl ⟨by rfl, fun w => ?_⟩ | (refine Or.inr ⟨by rfl, ?_⟩; with_reducible rfl)
        first | done | (go_simp; all_goals with_reducible rfl)
      try simp only [Act.put, List.setIfInBounds_toArray, List.set_cons_zero, List.set_cons_succ]
      refine Sim.take (i := 1) (d := some 8) (v := ?_) rfl rfl (by kernel_rfl) (by kernel_rfl) (by kernel_rfl) (by kernel_rfl) (fun _ _ _ h => h) (by first | exact XStab.true | exact XStab.rd | exact XStab.rdIf) ?_ ?_
      rotate_left
      · first | refine Or.inl ⟨by rfl, fun w hO => ?_⟩ | (refine Or.inr ⟨by rfl, ?_⟩; with_reducible rfl)
        first | done | (have hF := hO; (try simp only [Own, Item.Holds, apartI, CellsAt, Nat.reduceAdd, Nat.zero_add, List.mem_cons, List.not_mem_nil, or_false, forall_eq_or_imp, forall_eq, ne_eq, false_imp_iff, implies_true, and_true] at hF); ((have cd0 := (HD.out.below hO.base).cell 0 (by omega); have cd1 := (HD.out.below hO.base).cell 1 (by omega); have cd2 := (HD.out.below hO.base).cell 2 (by omega); simp only [dotL, List.getD_cons_zero, List.getD_cons_succ] at cd0 cd1 cd2)); refine Out.same ?_; go_simp; all_goals with_reducible rfl)
      try simp only [Act.put, List.setIfInBounds_toArray, List.set_cons_zero, List.set_cons_succ]
      refine Sim.takeP (i := 2) (d := some 9) (v := ?_) rfl rfl (by kernel_rfl) (by kernel_rfl) (by kernel_rfl) (fun _ _ _ h => h) (by first | exact XStab.true | exact XStab.rd | exact XStab.rdIf) ?_ ?_
      rotate_left
      · first | refine Or.inl ⟨by rfl, fun w => ?_⟩ | (refine Or.inr ⟨by rfl, ?_⟩; with_reducible rfl)
        first | done | (go_simp; all_goals with_reducible rfl)
      try simp only [Act.put, List.setIfInBounds_toArray, List.set_cons_zero, List.set_cons_succ]
      refine Sim.takeP (i := 3) (d := some 10) (v := ?_) rfl rfl (by kernel_rfl) (by kernel_rfl) (by kernel_rfl) (fun _ _ _ h => h) (by first | exact XStab.true | exact XStab.rd | exact XStab.rdIf) ?_ ?_
      rotate_left
      · first | refine Or.inl ⟨by rfl, fun w => ?_⟩ | (refine Or.inr ⟨by rfl, ?_⟩; with_reducible rfl)
        first | done | (go_simp; all_goals with_reducible rfl)
      try simp only [Act.put, List.setIfInBounds_toArray, List.set_cons_zero, List.set_cons_succ]
      refine Sim.take (i := 4) (d := some 11) (v := ?_) rfl rfl (by kernel_rfl) (by kernel_rfl) (by kernel_rfl) (by kernel_rfl) (fun _ _ _ h => h) (by first | exact XStab.true | exact XStab.rd | exact XStab.rdIf) ?_ ?_
      rotate_left
      · first | refine Or.inl ⟨by rfl, fun w hO => ?_⟩ | (refine Or.inr ⟨by rfl, ?_⟩; with_reducible rfl)
        first | done | (have hF := hO; (try simp only [Own, Item.Holds, apartI, CellsAt, Nat.reduceAdd, Nat.zero_add, List.mem_cons, List.not_mem_nil, or_false, forall_eq_or_imp, forall_eq, ne_eq, false_imp_iff, implies_true, and_true] at hF); ((have cd0 := (HD.out.below hO.base).cell 0 (by omega); have cd1 := (HD.out.below hO.base).cell 1 (by omega); have cd2 := (HD.out.below hO.base).cell 2 (by omega); simp only [dotL, List.getD_cons_zero, List.getD_cons_succ] at cd0 cd1 cd2)); refine Out.same ?_; go_simp; all_goals with_reducible rfl)
      try simp only [Act.put, List.setIfInBounds_toArray, List.set_cons_zero, List.set_cons_succ]
      refine Sim.takeP (i := 5) (d := some 12) (v := ?_) rfl rfl (by kernel_rfl) (by kernel_rfl) (by kernel_rfl) (fun _ _ _ h => h) (by first | exact XStab.true | exact XStab.rd | exact XStab.rdIf) ?_ ?_
      rotate_left
      · first | refine Or.inl ⟨by rfl, fun w => ?_⟩ | (refine Or.inr ⟨by rfl, ?_⟩; with_reducible rfl)
        first | done | (go_simp; all_goals with_reducible rfl)
      try simp only [Act.put, List.setIfInBounds_toArray, List.set_cons_zero, List.set_cons_succ]
      refine Sim.take (i := 6) (d := some 13) (v := ?_) rfl rfl (by kernel_rfl) (by kernel_rfl) (by kernel_rfl) (by kernel_rfl) (fun _ _ _ h => h) (by first | exact XStab.true | exact XStab.rd | exact XStab.rdIf) ?_ ?_
      rotate_left
      · first | refine Or.inl ⟨by rfl, fun w hO => ?_⟩ | (refine Or.inr ⟨by rfl, ?_⟩; with_reducible rfl)
        first | done | (have hF := hO; (try simp only [Own, Item.Holds, apartI, CellsAt, Nat.reduceAdd, Nat.zero_add, List.mem_cons, List.not_mem_nil, or_false, forall_eq_or_imp, forall_eq, ne_eq, false_imp_iff, implies_true, and_true] at hF); ((have cd0 := (HD.out.below hO.base).cell 0 (by omega); have cd1 := (HD.out.below hO.base).cell 1 (by omega); have cd2 := (HD.out.below hO.base).cell 2 (by omega); simp only [dotL, List.getD_cons_zero, List.getD_cons_succ] at cd0 cd1 cd2)); refine Out.same ?_; go_simp; all_goals with_reducible rfl)
      try simp only [Act.put, List.setIfInBounds_toArray, List.set_cons_zero, List.set_cons_succ]
      refine Sim.takeP (i := 7) (d := some 14) (v := ?_) rfl rfl (by kernel_rfl) (by kernel_rfl) (by kernel_rfl) (fun _ _ _ h => h) (by first | exact XStab.true | exact XStab.rd | exact XStab.rdIf) ?_ ?_
      rotate_left
      · first | refine Or.inl ⟨by rfl, fun w => ?_⟩ | (refine Or.inr ⟨by rfl, ?_⟩; with_reducible rfl)
        first | done | (go_simp; all_goals with_reducible rfl)
      try simp only [Act.put, List.setIfInBounds_toArray, List.set_cons_zero, List.set_cons_succ]
      refine Sim.takeP (i := 8) (d := some 15) (v := ?_) rfl rfl (by kernel_rfl) (by kernel_rfl) (by kernel_rfl) (fun _ _ _ h => h) (by first | exact XStab.true | exact XStab.rd | exact XStab.rdIf) ?_ ?_
      rotate_left
      · first | refine Or.inl ⟨by rfl, fun w => ?_⟩ | (refine Or.inr ⟨by rfl, ?_⟩; with_reducible rfl)
        first | done | (go_simp; all_goals with_reducible rfl)
      try simp only [Act.put, List.setIfInBounds_toArray, List.set_cons_zero, List.set_cons_succ]
      refine Sim.takeP (i := 9) (d := some 3) (v := ?_) rfl rfl (by kernel_rfl) (by kernel_rfl) (by kernel_rfl) (fun _ _ _ h => h) (by first | exact XStab.true | exact XStab.rd | exact XStab.rdIf) ?_ ?_
      rotate_left
      · first | refine Or.inl ⟨by rfl, fun w => ?_⟩ | (refine Or.inr ⟨by rfl, ?_⟩; with_reducible rfl)
        first | done | (go_simp; all_goals with_reducible rfl)
      try simp only [Act.put, List.setIfInBounds_toArray, List.set_cons_zero, List.set_cons_succ]
      refine Sim.done (by kernel_rfl) (fun w1 hO hX => ?_) _
      (try simp only [World.size_alloc1, World.size_drew, Nat.reduceAdd] at hO); (try simp only [upd, updI, List.map_cons, List.map_nil, eq_self, if_true, if_false, reduceIte, Nat.add_eq_left, Nat.left_eq_add, Nat.reduceEqDiff, List.set_cons_zero, List.set_cons_succ] at hO)
      have hF := hO; (try simp only [Own, Item.Holds, apartI, CellsAt, Nat.reduceAdd, Nat.zero_add, List.mem_cons, List.not_mem_nil, or_false, forall_eq_or_imp, forall_eq, ne_eq, false_imp_iff, implies_true, and_true] at hF)
      go_wp2
      go_ret
      exact ⟨ret_int (by rw [HT.out]; decide), hO.base⟩
end Go.Proofs.YtcifmpjefhichaaDoor
