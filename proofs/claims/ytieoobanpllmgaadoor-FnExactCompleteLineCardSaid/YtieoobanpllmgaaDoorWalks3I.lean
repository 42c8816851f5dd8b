/- Chapter 3 in the program: the table of alterations, tonics, pitches in keys. -/
import Derived.Test.YtieoobanpllmgaaDoorWalks3S
import Derived.Test.YtieoobanpllmgaaDoorWalks1
import Derived.Test.YtieoobanpllmgaaDoorPure1
import Derived.Test.YtieoobanpllmgaaDoorTab2
import Derived.Lib.SmallJoins
import Derived.Test.YtieoobanpllmgaaDoorRegionD
namespace Go.Proofs.YtieoobanpllmgaaDoor
set_option linter.unusedSimpArgs false
set_option linter.unusedVariables false
set_option maxRecDepth 8000
open Go.RowKit Go.Joins

/-- The table of alterations lies as its text lays it. -/
def TabA (w : World) : Prop := Lib.TabIs Tryd.prog w "loop.example/musicengine/impl.keyAlters" .i64 altLL.flatten
theorem gA : Tryd.prog.globalNamed "loop.example/musicengine/impl.keyAlters" = some 1 := by kernel_rfl
theorem TabA.below {w w' : World} (h : TabA w) (hb : Below w.heap.size w w') : TabA w' := tab_stays gA h hb (Nat.le_refl _)
theorem TabA.cell {w : World} (h : TabA w) {f s : Int} (f0 : -7 ≤ f) (f1 : f ≤ 7) (s0 : 0 ≤ s) (s1 : s ≤ 6) : w.cell? ⟨1, (f + 7).toNat * 7 + s.toNat, none⟩ = some (.int .i64 (altZ f s)) := by
  rw [Lib.TabIs.cell h gA ((f + 7).toNat * 7 + s.toNat) (by rw [altLL_len]; omega), altLL_at f0 f1 s0 s1]

set_option maxHeartbeats 400000 in
theorem kvI_any (f : Int) (w : World) :
    Calls Tryd.prog 82 #[.int .i64 f] w fun e w' => e = .returned (.bool (keyB f)) ∧ w = w' := by
  unfold keyB inB
  by_cases h1 : -7 ≤ f <;> by_cases h2 : f ≤ 7
  all_goals
    go_enter Tryd.func82, Tryd.ntmps82
    go_wp2
    go_ret
    simp [h1, h2]
theorem kvI_is {f : Int} {b : Bool} (w : World) (h : keyB f = b) : Calls Tryd.prog 82 #[.int .i64 f] w fun e w' => e = .returned (.bool b) ∧ Below w.heap.size w w' := by subst h; exact inBel (kvI_any _ _)
theorem pvI_is {s a o : Int} {b : Bool} (w : World) (h : pvB s a o = b) : Calls Tryd.prog 61 #[.agg #[.int .i64 s, .int .i64 a, .int .i64 o]] w fun e w' => e = .returned (.bool b) ∧ Below w.heap.size w w' := by subst h; exact pvI_any _ _ _ _

set_option maxHeartbeats 1000000 in
theorem kaI_any0 (f s : Int) (w : World) (hA : TabA w) :
    Calls Tryd.prog 83 #[.int .i64 f, .int .i64 s] w fun e w' => e = .returned (.int .i64 (kaZ f s)) ∧ w = w' := by
  cases h1 : keyB f
  · have HE := hid (show kaZ f s = 0 by simp [kaZ, h1])
    clear hA
    go_enter Tryd.func83, Tryd.ntmps83
    go_wp2_with (go_at_call 82; refine (kvI_any _ _).mono ?_; rintro e w1 ⟨rfl, rfl⟩)
    all_goals go_ret
    all_goals exact ⟨ret_int HE.out.symm, rfl⟩
  cases h2 : inB s 0 6
  · have HE := hid (show kaZ f s = 0 by simp [kaZ, h2])
    have h3 : s < 0 ∨ 7 ≤ s := by
      by_cases h : 0 ≤ s ∧ s ≤ 6
      · rw [inB_iff.2 h] at h2; cases h2
      · omega
    clear hA h2
    rcases h3 with h3 | h3
    all_goals
      go_enter Tryd.func83, Tryd.ntmps83
      go_wp2_with (go_at_call 82; refine (kvI_any _ _).mono ?_; rintro e w1 ⟨rfl, rfl⟩)
    all_goals go_ret
    all_goals exact ⟨ret_int HE.out.symm, rfl⟩
  · have HE := hid (show kaZ f s = altZ f s by simp [kaZ, h1, h2])
    obtain ⟨s0, s6⟩ := inB_iff.1 h2
    obtain ⟨f0, f1⟩ := keyB_iff.1 h1
    have hc := hA.cell f0 f1 s0 s6
    clear hA h2
    go_enter Tryd.func83, Tryd.ntmps83
    go_wp2_with (go_at_call 82; refine (kvI_any _ _).mono ?_; rintro e w1 ⟨rfl, rfl⟩)
    go_ret
    exact ⟨ret_int HE.out.symm, rfl⟩
theorem kaI_any (f s : Int) (w : World) (hA : TabA w) :
    Calls Tryd.prog 83 #[.int .i64 f, .int .i64 s] w fun e w' => e = .returned (.int .i64 (kaZ f s)) ∧ Below w.heap.size w w' := inBel (kaI_any0 f s w hA)
theorem kaI_in (f s : Int) (w : World) (hA : TabA w) (hf : keyB f = true) (s0 : 0 ≤ s) (s6 : s ≤ 6) :
    Calls Tryd.prog 83 #[.int .i64 f, .int .i64 s] w fun e w' => e = .returned (.int .i64 (altZ f s)) ∧ Below w.heap.size w w' := by
  have := kaI_any f s w hA
  rwa [show kaZ f s = altZ f s by simp [kaZ, hf, inB_iff.2 ⟨s0, s6⟩]] at this

set_option maxHeartbeats 1000000 in
theorem kpI_any (f p : Int) (w : World) (hA : TabA w) (hf : keyB f = true) (p0 : 0 ≤ p) (p1 : p ≤ 1000) :
    Calls Tryd.prog 69 #[.int .i64 f, .int .i64 p] w fun e w' => e = .returned (.agg #[.int .i64 (p % 7), .int .i64 (altZ f (p % 7)), .int .i64 (p / 7)]) ∧ Below w.heap.size w w' := by
  have hO := Own.start w
  have hF := True.intro
  have q0 : 0 ≤ p % 7 := by omega
  have q1 : p % 7 ≤ 6 := by omega
  go_enter Tryd.func69, Tryd.ntmps69
  go_wp2_with (go_at_call 83; apply own_at hO; (repeat (first | (with_reducible exact hO) | (with_reducible apply Own.alloc) | (with_reducible apply Own.drew) | ((with_reducible apply Own.set_at); (focus (show _ ≤ _; omega))))); have hG := hF; clear hF; clear hO; intro hO; refine own_call hO (fun hB => kaI_in _ _ _ (hA.below hB) hf q0 q1) ?_; clear hO; intro w1 hO; (try simp only [World.size_alloc1, World.size_drew, Nat.reduceAdd] at hO); (try simp only [upd, updI, List.map_cons, List.map_nil, eq_self, if_true, if_false, reduceIte, Nat.add_eq_left, Nat.left_eq_add, Nat.reduceEqDiff, List.set_cons_zero, List.set_cons_succ, hG] at hO); clear hG; have hF := hO; (try simp only [Own, Item.Holds, apartI, CellsAt, Nat.reduceAdd, Nat.zero_add, List.mem_cons, List.not_mem_nil, or_false, forall_eq_or_imp, forall_eq, ne_eq, false_imp_iff, implies_true, and_true] at hF))
  apply own_end hO
  (repeat (first | (with_reducible exact hO) | (with_reducible apply Own.alloc) | (with_reducible apply Own.drew) | ((with_reducible apply Own.set_at); (focus (show _ ≤ _; omega)))))
  have hG := hF; clear hF; clear hO; intro hO
  refine own_ret (v := .agg #[.int .i64 (p % 7), .int .i64 (altZ f (p % 7)), .int .i64 (p / 7)]) hO ?_ rfl (fun hO => ⟨rfl, hO.base⟩)
  clear hO; intro w1 hO
  (try simp only [World.size_alloc1, World.size_drew, Nat.reduceAdd] at hO); (try simp only [upd, updI, List.map_cons, List.map_nil, eq_self, if_true, if_false, reduceIte, Nat.add_eq_left, Nat.left_eq_add, Nat.reduceEqDiff, List.set_cons_zero, List.set_cons_succ, hG] at hO); clear hG
  have hF := hO; (try simp only [Own, Item.Holds, apartI, CellsAt, Nat.reduceAdd, Nat.zero_add, List.mem_cons, List.not_mem_nil, or_false, forall_eq_or_imp, forall_eq, ne_eq, false_imp_iff, implies_true, and_true] at hF)
  simp [results, Tryd.results69, go_sem, hF]

theorem kpI_ton (f : Int) (m : Bool) (w : World) (hA : TabA w) (hf : keyB f = true) :
    Calls Tryd.prog 69 #[.int .i64 f, .int .i64 (28 + tonZ f m)] w fun e w' => e = .returned (.agg #[.int .i64 (tonZ f m), .int .i64 (altZ f (tonZ f m)), .int .i64 4]) ∧ Below w.heap.size w w' := by
  obtain ⟨t0, t6⟩ := tonZ_bd f m
  have := kpI_any f (28 + tonZ f m) w hA hf (by omega) (by omega)
  rwa [show (28 + tonZ f m) % 7 = tonZ f m by omega, show (28 + tonZ f m) / 7 = 4 by omega] at this

set_option maxHeartbeats 1000000 in
theorem ikI_any (f s a o : Int) (w : World) (hA : TabA w) :
    Calls Tryd.prog 68 #[.int .i64 f, .agg #[.int .i64 s, .int .i64 a, .int .i64 o]] w fun e w' => e = .returned (.bool (ikB f s a o)) ∧ Below w.heap.size w w' := by
  have hO := Own.start w
  have hF := True.intro
  cases h1 : keyB f
  · have HE := hid (show ikB f s a o = false by simp [ikB, h1])
    go_enter Tryd.func68, Tryd.ntmps68
    go_wp2_with fail
    apply own_code hO
    (repeat (first | (with_reducible exact hO) | (with_reducible apply Own.alloc) | (with_reducible apply Own.drew) | ((with_reducible apply Own.set_at); (focus (show _ ≤ _; omega)))))
    have hG := hF; clear hF; clear hO; intro hO
    (try simp only [World.size_alloc1, World.size_drew, Nat.reduceAdd] at hO); (try simp only [upd, updI, List.map_cons, List.map_nil, eq_self, if_true, if_false, reduceIte, Nat.add_eq_left, Nat.left_eq_add, Nat.reduceEqDiff, List.set_cons_zero, List.set_cons_succ, hG] at hO); clear hG
    refine region_own (X := fun _ => True) [] (by kernel_rfl) (hO) (trivial) (by first | exact XStab.true | exact XStab.rd | exact XStab.rdIf) ?_
    clear hO
    refine Sim.sP (i := 0) (d := some 5) (h := ?_)
    refine Sim.sO (i := 1) (d := some 6) (v := ?_) (hy := ?_) (h := ?_)
    rotate_left
    · first | refine Or.inl ⟨by rfl, fun w hO => ?_⟩ | (refine Or.inr ⟨by rfl, ?_⟩; with_reducible rfl)
      first | done | (refine Out.call (f := 82) (args := ?_) ?_ ?_; rotate_left; (focus (go_simp; all_goals with_reducible rfl)); exact kvI_is _ h1)
    refine Sim.sP (i := 2) (d := some 7) (h := ?_)
    refine Sim.sO (i := 3) (d := some 8) (v := ?_) (hy := ?_) (h := ?_)
    rotate_left
    · first | refine Or.inl ⟨by rfl, fun w hO => ?_⟩ | (refine Or.inr ⟨by rfl, ?_⟩; with_reducible rfl)
      first | done | (have hF := hO; (try simp only [Own, Item.Holds, apartI, CellsAt, Nat.reduceAdd, Nat.zero_add, List.mem_cons, List.not_mem_nil, or_false, forall_eq_or_imp, forall_eq, ne_eq, false_imp_iff, implies_true, and_true] at hF); refine Out.same ?_; go_simp; all_goals with_reducible rfl)
    refine Sim.sO (i := 4) (d := some 9) (v := ?_) (hy := ?_) (h := ?_)
    rotate_left
    · first | refine Or.inl ⟨by rfl, fun w hO => ?_⟩ | (refine Or.inr ⟨by rfl, ?_⟩; with_reducible rfl)
      first | done | (refine Out.call (f := 61) (args := ?_) ?_ ?_; rotate_left; (focus (go_simp; all_goals with_reducible rfl)); exact pvI_any _ _ _ _)
    refine Sim.sP (i := 5) (d := some 10) (h := ?_)
    refine Sim.sP (i := 6) (d := some 11) (h := ?_)
    refine Sim.sP (i := 7) (d := some 12) (h := ?_)
    refine Sim.sO (i := 8) (d := some 13) (v := ?_) (hy := ?_) (h := ?_)
    rotate_left
    · first | refine Or.inl ⟨by rfl, fun w hO => ?_⟩ | (refine Or.inr ⟨by rfl, ?_⟩; with_reducible rfl)
      first | done | (have hF := hO; (try simp only [Own, Item.Holds, apartI, CellsAt, Nat.reduceAdd, Nat.zero_add, List.mem_cons, List.not_mem_nil, or_false, forall_eq_or_imp, forall_eq, ne_eq, false_imp_iff, implies_true, and_true] at hF); refine Out.same ?_; go_simp; all_goals with_reducible rfl)
    refine Sim.sP (i := 9) (d := some 14) (h := ?_)
    refine Sim.sP (i := 10) (d := some 15) (h := ?_)
    refine Sim.sO (i := 11) (d := some 16) (v := ?_) (hy := ?_) (h := ?_)
    rotate_left
    · first | refine Or.inl ⟨by rfl, fun w hO => ?_⟩ | (refine Or.inr ⟨by rfl, ?_⟩; with_reducible rfl)
      first | done | (have hF := hO; (try simp only [Own, Item.Holds, apartI, CellsAt, Nat.reduceAdd, Nat.zero_add, List.mem_cons, List.not_mem_nil, or_false, forall_eq_or_imp, forall_eq, ne_eq, false_imp_iff, implies_true, and_true] at hF); refine Out.same ?_; go_simp; all_goals with_reducible rfl)
    refine Sim.sO (i := 12) (d := some 17) (v := ?_) (hy := ?_) (h := ?_)
    rotate_left
    · first | refine Or.inl ⟨by rfl, fun w hO => ?_⟩ | (refine Or.inr ⟨by rfl, ?_⟩; with_reducible rfl)
      first | done | (refine Out.call (f := 83) (args := ?_) ?_ ?_; rotate_left; (focus (go_simp; all_goals with_reducible rfl)); exact kaI_any _ _ _ (hA.below hO.base))
    refine Sim.sP (i := 13) (d := some 18) (h := ?_)
    refine Sim.sP (i := 14) (d := some 19) (h := ?_)
    refine Sim.sP (i := 15) (d := some 4) (h := ?_)
    refine Sim.done (by kernel_rfl) (fun w1 hO hX => ?_) _
    (try simp only [World.size_alloc1, World.size_drew, Nat.reduceAdd] at hO); (try simp only [upd, updI, List.map_cons, List.map_nil, eq_self, if_true, if_false, reduceIte, Nat.add_eq_left, Nat.left_eq_add, Nat.reduceEqDiff, List.set_cons_zero, List.set_cons_succ] at hO)
    have hF := hO; (try simp only [Own, Item.Holds, apartI, CellsAt, Nat.reduceAdd, Nat.zero_add, List.mem_cons, List.not_mem_nil, or_false, forall_eq_or_imp, forall_eq, ne_eq, false_imp_iff, implies_true, and_true] at hF)
    go_wp2
    go_ret
    exact ⟨ret_bool HE.out.symm, hO.base⟩
  cases h2 : pvB s a o
  · have HE := hid (show ikB f s a o = false by simp [ikB, h2])
    go_enter Tryd.func68, Tryd.ntmps68
    go_wp2_with fail
    apply own_code hO
    (repeat (first | (with_reducible exact hO) | (with_reducible apply Own.alloc) | (with_reducible apply Own.drew) | ((with_reducible apply Own.set_at); (focus (show _ ≤ _; omega)))))
    have hG := hF; clear hF; clear hO; intro hO
    (try simp only [World.size_alloc1, World.size_drew, Nat.reduceAdd] at hO); (try simp only [upd, updI, List.map_cons, List.map_nil, eq_self, if_true, if_false, reduceIte, Nat.add_eq_left, Nat.left_eq_add, Nat.reduceEqDiff, List.set_cons_zero, List.set_cons_succ, hG] at hO); clear hG
    refine region_own (X := fun _ => True) [] (by kernel_rfl) (hO) (trivial) (by first | exact XStab.true | exact XStab.rd | exact XStab.rdIf) ?_
    clear hO
    refine Sim.sP (i := 0) (d := some 5) (h := ?_)
    refine Sim.sO (i := 1) (d := some 6) (v := ?_) (hy := ?_) (h := ?_)
    rotate_left
    · first | refine Or.inl ⟨by rfl, fun w hO => ?_⟩ | (refine Or.inr ⟨by rfl, ?_⟩; with_reducible rfl)
      first | done | (refine Out.call (f := 82) (args := ?_) ?_ ?_; rotate_left; (focus (go_simp; all_goals with_reducible rfl)); exact kvI_is _ h1)
    refine Sim.sP (i := 2) (d := some 7) (h := ?_)
    refine Sim.sO (i := 3) (d := some 8) (v := ?_) (hy := ?_) (h := ?_)
    rotate_left
    · first | refine Or.inl ⟨by rfl, fun w hO => ?_⟩ | (refine Or.inr ⟨by rfl, ?_⟩; with_reducible rfl)
      first | done | (have hF := hO; (try simp only [Own, Item.Holds, apartI, CellsAt, Nat.reduceAdd, Nat.zero_add, List.mem_cons, List.not_mem_nil, or_false, forall_eq_or_imp, forall_eq, ne_eq, false_imp_iff, implies_true, and_true] at hF); refine Out.same ?_; go_simp; all_goals with_reducible rfl)
    refine Sim.sO (i := 4) (d := some 9) (v := ?_) (hy := ?_) (h := ?_)
    rotate_left
    · first | refine Or.inl ⟨by rfl, fun w hO => ?_⟩ | (refine Or.inr ⟨by rfl, ?_⟩; with_reducible rfl)
      first | done | (refine Out.call (f := 61) (args := ?_) ?_ ?_; rotate_left; (focus (go_simp; all_goals with_reducible rfl)); exact pvI_is _ h2)
    refine Sim.sP (i := 5) (d := some 10) (h := ?_)
    refine Sim.sP (i := 6) (d := some 11) (h := ?_)
    refine Sim.sP (i := 7) (d := some 12) (h := ?_)
    refine Sim.sO (i := 8) (d := some 13) (v := ?_) (hy := ?_) (h := ?_)
    rotate_left
    · first | refine Or.inl ⟨by rfl, fun w hO => ?_⟩ | (refine Or.inr ⟨by rfl, ?_⟩; with_reducible rfl)
      first | done | (have hF := hO; (try simp only [Own, Item.Holds, apartI, CellsAt, Nat.reduceAdd, Nat.zero_add, List.mem_cons, List.not_mem_nil, or_false, forall_eq_or_imp, forall_eq, ne_eq, false_imp_iff, implies_true, and_true] at hF); refine Out.same ?_; go_simp; all_goals with_reducible rfl)
    refine Sim.sP (i := 9) (d := some 14) (h := ?_)
    refine Sim.sP (i := 10) (d := some 15) (h := ?_)
    refine Sim.sO (i := 11) (d := some 16) (v := ?_) (hy := ?_) (h := ?_)
    rotate_left
    · first | refine Or.inl ⟨by rfl, fun w hO => ?_⟩ | (refine Or.inr ⟨by rfl, ?_⟩; with_reducible rfl)
      first | done | (have hF := hO; (try simp only [Own, Item.Holds, apartI, CellsAt, Nat.reduceAdd, Nat.zero_add, List.mem_cons, List.not_mem_nil, or_false, forall_eq_or_imp, forall_eq, ne_eq, false_imp_iff, implies_true, and_true] at hF); refine Out.same ?_; go_simp; all_goals with_reducible rfl)
    refine Sim.sO (i := 12) (d := some 17) (v := ?_) (hy := ?_) (h := ?_)
    rotate_left
    · first | refine Or.inl ⟨by rfl, fun w hO => ?_⟩ | (refine Or.inr ⟨by rfl, ?_⟩; with_reducible rfl)
      first | done | (refine Out.call (f := 83) (args := ?_) ?_ ?_; rotate_left; (focus (go_simp; all_goals with_reducible rfl)); exact kaI_any _ _ _ (hA.below hO.base))
    refine Sim.sP (i := 13) (d := some 18) (h := ?_)
    refine Sim.sP (i := 14) (d := some 19) (h := ?_)
    refine Sim.sP (i := 15) (d := some 4) (h := ?_)
    refine Sim.done (by kernel_rfl) (fun w1 hO hX => ?_) _
    (try simp only [World.size_alloc1, World.size_drew, Nat.reduceAdd] at hO); (try simp only [upd, updI, List.map_cons, List.map_nil, eq_self, if_true, if_false, reduceIte, Nat.add_eq_left, Nat.left_eq_add, Nat.reduceEqDiff, List.set_cons_zero, List.set_cons_succ] at hO)
    have hF := hO; (try simp only [Own, Item.Holds, apartI, CellsAt, Nat.reduceAdd, Nat.zero_add, List.mem_cons, List.not_mem_nil, or_false, forall_eq_or_imp, forall_eq, ne_eq, false_imp_iff, implies_true, and_true] at hF)
    go_wp2
    go_ret
    exact ⟨ret_bool HE.out.symm, hO.base⟩
  · have HE := hid (show ikB f s a o = (a == altZ f s) by simp [ikB, h1, h2])
    obtain ⟨⟨i1, i2⟩, _, _⟩ := pvB_iff.1 h2
    go_enter Tryd.func68, Tryd.ntmps68
    go_wp2_with fail
    apply own_code hO
    (repeat (first | (with_reducible exact hO) | (with_reducible apply Own.alloc) | (with_reducible apply Own.drew) | ((with_reducible apply Own.set_at); (focus (show _ ≤ _; omega)))))
    have hG := hF; clear hF; clear hO; intro hO
    (try simp only [World.size_alloc1, World.size_drew, Nat.reduceAdd] at hO); (try simp only [upd, updI, List.map_cons, List.map_nil, eq_self, if_true, if_false, reduceIte, Nat.add_eq_left, Nat.left_eq_add, Nat.reduceEqDiff, List.set_cons_zero, List.set_cons_succ, hG] at hO); clear hG
    refine region_own (X := fun _ => True) [] (by kernel_rfl) (hO) (trivial) (by first | exact XStab.true | exact XStab.rd | exact XStab.rdIf) ?_
    clear hO
    refine Sim.sP (i := 0) (d := some 5) (h := ?_)
    refine Sim.sO (i := 1) (d := some 6) (v := ?_) (hy := ?_) (h := ?_)
    rotate_left
    · first | refine Or.inl ⟨by rfl, fun w hO => ?_⟩ | (refine Or.inr ⟨by rfl, ?_⟩; with_reducible rfl)
      first | done | (refine Out.call (f := 82) (args := ?_) ?_ ?_; rotate_left; (focus (go_simp; all_goals with_reducible rfl)); exact kvI_is _ h1)
    refine Sim.sP (i := 2) (d := some 7) (h := ?_)
    refine Sim.sO (i := 3) (d := some 8) (v := ?_) (hy := ?_) (h := ?_)
    rotate_left
    · first | refine Or.inl ⟨by rfl, fun w hO => ?_⟩ | (refine Or.inr ⟨by rfl, ?_⟩; with_reducible rfl)
      first | done | (have hF := hO; (try simp only [Own, Item.Holds, apartI, CellsAt, Nat.reduceAdd, Nat.zero_add, List.mem_cons, List.not_mem_nil, or_false, forall_eq_or_imp, forall_eq, ne_eq, false_imp_iff, implies_true, and_true] at hF); refine Out.same ?_; go_simp; all_goals with_reducible rfl)
    refine Sim.sO (i := 4) (d := some 9) (v := ?_) (hy := ?_) (h := ?_)
    rotate_left
    · first | refine Or.inl ⟨by rfl, fun w hO => ?_⟩ | (refine Or.inr ⟨by rfl, ?_⟩; with_reducible rfl)
      first | done | (refine Out.call (f := 61) (args := ?_) ?_ ?_; rotate_left; (focus (go_simp; all_goals with_reducible rfl)); exact pvI_is _ h2)
    refine Sim.sP (i := 5) (d := some 10) (h := ?_)
    refine Sim.sP (i := 6) (d := some 11) (h := ?_)
    refine Sim.sP (i := 7) (d := some 12) (h := ?_)
    refine Sim.sO (i := 8) (d := some 13) (v := ?_) (hy := ?_) (h := ?_)
    rotate_left
    · first | refine Or.inl ⟨by rfl, fun w hO => ?_⟩ | (refine Or.inr ⟨by rfl, ?_⟩; with_reducible rfl)
      first | done | (have hF := hO; (try simp only [Own, Item.Holds, apartI, CellsAt, Nat.reduceAdd, Nat.zero_add, List.mem_cons, List.not_mem_nil, or_false, forall_eq_or_imp, forall_eq, ne_eq, false_imp_iff, implies_true, and_true] at hF); refine Out.same ?_; go_simp; all_goals with_reducible rfl)
    refine Sim.sP (i := 9) (d := some 14) (h := ?_)
    refine Sim.sP (i := 10) (d := some 15) (h := ?_)
    refine Sim.sO (i := 11) (d := some 16) (v := ?_) (hy := ?_) (h := ?_)
    rotate_left
    · first | refine Or.inl ⟨by rfl, fun w hO => ?_⟩ | (refine Or.inr ⟨by rfl, ?_⟩; with_reducible rfl)
      first | done | (have hF := hO; (try simp only [Own, Item.Holds, apartI, CellsAt, Nat.reduceAdd, Nat.zero_add, List.mem_cons, List.not_mem_nil, or_false, forall_eq_or_imp, forall_eq, ne_eq, false_imp_iff, implies_true, and_true] at hF); refine Out.same ?_; go_simp; all_goals with_reducible rfl)
    refine Sim.sO (i := 12) (d := some 17) (v := ?_) (hy := ?_) (h := ?_)
    rotate_left
    · first | refine Or.inl ⟨by rfl, fun w hO => ?_⟩ | (refine Or.inr ⟨by rfl, ?_⟩; with_reducible rfl)
      first | done | (refine Out.call (f := 83) (args := ?_) ?_ ?_; rotate_left; (focus (go_simp; all_goals with_reducible rfl)); exact kaI_in _ _ _ (hA.below hO.base) h1 i1 i2)
    refine Sim.sP (i := 13) (d := some 18) (h := ?_)
    refine Sim.sP (i := 14) (d := some 19) (h := ?_)
    refine Sim.sP (i := 15) (d := some 4) (h := ?_)
    refine Sim.done (by kernel_rfl) (fun w1 hO hX => ?_) _
    (try simp only [World.size_alloc1, World.size_drew, Nat.reduceAdd] at hO); (try simp only [upd, updI, List.map_cons, List.map_nil, eq_self, if_true, if_false, reduceIte, Nat.add_eq_left, Nat.left_eq_add, Nat.reduceEqDiff, List.set_cons_zero, List.set_cons_succ] at hO)
    have hF := hO; (try simp only [Own, Item.Holds, apartI, CellsAt, Nat.reduceAdd, Nat.zero_add, List.mem_cons, List.not_mem_nil, or_false, forall_eq_or_imp, forall_eq, ne_eq, false_imp_iff, implies_true, and_true] at hF)
    go_wp2
    go_ret
    exact ⟨ret_bool HE.out.symm, hO.base⟩
end Go.Proofs.YtieoobanpllmgaaDoor
