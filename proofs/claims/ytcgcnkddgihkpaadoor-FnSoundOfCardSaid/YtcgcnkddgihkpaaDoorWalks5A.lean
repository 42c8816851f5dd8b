/- Chapter 5 in the program: notes and voices that are valid. -/
import Derived.Test.YtcgcnkddgihkpaaDoorWalks5S
import Derived.Test.YtcgcnkddgihkpaaDoorSlTake
import Derived.Test.YtcgcnkddgihkpaaDoorCon5
import Derived.Test.YtcgcnkddgihkpaaDoorRegionD
namespace Go.Proofs.YtcgcnkddgihkpaaDoor
set_option linter.unusedSimpArgs false
set_option linter.unusedVariables false
set_option maxRecDepth 8000
open Go.RowKit

theorem nv_rest0 {s a o t : Int} {y : Bool} (h : ¬ (s = 0 ∧ a = 0 ∧ o = 0)) : nvB ⟨true, s, a, o, t, y⟩ = false := by
  cases hn : nvB ⟨true, s, a, o, t, y⟩ with
  | false => rfl
  | true => exact absurd ((nvB_iff.1 hn).1 rfl).2 h
theorem nv_restY {s a o t : Int} : nvB ⟨true, s, a, o, t, true⟩ = false := by simp [nvB]
set_option maxHeartbeats 4000000 in
theorem nvI_any (x : Nt) (w : World) :
    Calls Tryd.prog 62 #[.agg #[.bool x.r, .int .i64 x.s, .int .i64 x.a, .int .i64 x.o, .int .i64 x.t, .bool x.y]] w fun e w' => e = .returned (.bool (nvB x)) ∧ Below w.heap.size w w' := by
  have hO := Own.start w
  have hF := True.intro
  obtain ⟨r, s, a, o, t, y⟩ := x
  simp only
  by_cases h1 : t < 1
  · have HE := hid (show nvB ⟨r, s, a, o, t, y⟩ = false by
      cases hn : nvB ⟨r, s, a, o, t, y⟩ with
      | false => rfl
      | true => have := (nvB_iff.1 hn).2.1; simp only at this; omega)
    go_enter Tryd.func62, Tryd.ntmps62
    go_wp2
    go_ret
    exact ⟨ret_bool HE.out.symm, Own.base (by (repeat (first | (with_reducible exact hO) | (with_reducible apply Own.alloc) | (with_reducible apply Own.drew) | ((with_reducible apply Own.set_at); (focus (show _ ≤ _; omega))))))⟩
  by_cases h2 : 768 < t
  · have HE := hid (show nvB ⟨r, s, a, o, t, y⟩ = false by
      cases hn : nvB ⟨r, s, a, o, t, y⟩ with
      | false => rfl
      | true => have := (nvB_iff.1 hn).2.1; simp only at this; omega)
    have h3 : ¬ t < 1 := by omega
    go_enter Tryd.func62, Tryd.ntmps62
    go_wp2
    go_ret
    exact ⟨ret_bool HE.out.symm, Own.base (by (repeat (first | (with_reducible exact hO) | (with_reducible apply Own.alloc) | (with_reducible apply Own.drew) | ((with_reducible apply Own.set_at); (focus (show _ ≤ _; omega))))))⟩
  have e1 : inB t 1 768 = true := inB_iff.2 ⟨by omega, by omega⟩
  cases r
  · have HE := hid (show nvB ⟨false, s, a, o, t, y⟩ = pvB s a o by simp [nvB, e1])
    clear e1
    go_enter Tryd.func62, Tryd.ntmps62
    go_wp2_with (go_at_call 59; apply own_at hO; (repeat (first | (with_reducible exact hO) | (with_reducible apply Own.alloc) | (with_reducible apply Own.drew) | ((with_reducible apply Own.set_at); (focus (show _ ≤ _; omega))))); have hG := hF; clear hF; clear hO; intro hO; refine own_call hO (fun hB => pvI_any _ _ _ _) ?_; clear hO; intro w1 hO; (try simp only [World.size_alloc1, World.size_drew, Nat.reduceAdd] at hO); (try simp only [upd, updI, List.map_cons, List.map_nil, eq_self, if_true, if_false, reduceIte, Nat.add_eq_left, Nat.left_eq_add, Nat.reduceEqDiff, List.set_cons_zero, List.set_cons_succ, hG] at hO); clear hG; have hF := hO; (try simp only [Own, Item.Holds, apartI, CellsAt, Nat.reduceAdd, Nat.zero_add, List.mem_cons, List.not_mem_nil, or_false, forall_eq_or_imp, forall_eq, ne_eq, false_imp_iff, implies_true, and_true] at hF))
    go_ret
    exact ⟨ret_bool HE.out.symm, Own.base (by (repeat (first | (with_reducible exact hO) | (with_reducible apply Own.alloc) | (with_reducible apply Own.drew) | ((with_reducible apply Own.set_at); (focus (show _ ≤ _; omega))))))⟩
  · cases y
    · by_cases hz : s = 0 ∧ a = 0 ∧ o = 0
      · obtain ⟨rfl, rfl, rfl⟩ := hz
        have HE := hid (show nvB ⟨true, 0, 0, 0, t, false⟩ = true by simp [nvB, e1]; decide)
        clear e1
        go_enter Tryd.func62, Tryd.ntmps62
        go_wp2
        go_ret
        exact ⟨ret_bool HE.out.symm, Own.base (by (repeat (first | (with_reducible exact hO) | (with_reducible apply Own.alloc) | (with_reducible apply Own.drew) | ((with_reducible apply Own.set_at); (focus (show _ ≤ _; omega))))))⟩
      · clear e1
        go_enter Tryd.func62, Tryd.ntmps62
        go_wp2
        all_goals go_ret
        all_goals exact ⟨ret_bool (nv_rest0 (by omega)).symm, Own.base (by (repeat (first | (with_reducible exact hO) | (with_reducible apply Own.alloc) | (with_reducible apply Own.drew) | ((with_reducible apply Own.set_at); (focus (show _ ≤ _; omega))))))⟩
    · clear e1
      go_enter Tryd.func62, Tryd.ntmps62
      go_wp2
      all_goals go_ret
      all_goals exact ⟨ret_bool nv_restY.symm, Own.base (by (repeat (first | (with_reducible exact hO) | (with_reducible apply Own.alloc) | (with_reducible apply Own.drew) | ((with_reducible apply Own.set_at); (focus (show _ ≤ _; omega))))))⟩

/-- the tie of the first note leads on. -/
def ldB : List Nt → Bool
  | [] => true
  | [x] => !x.y
  | x :: z :: _ => !x.y || (!z.r && toneB x z)
theorem tie_ld (x : Nt) (l : List Nt) : tieB (x :: l) = (nvB x && ldB (x :: l) && tieB l) := by
  cases l with
  | nil => simp [tieB, ldB]
  | cons z l => simp [tieB, ldB, linkB]

set_option maxHeartbeats 4000000 in
theorem ldI_any (va : Value) (x : Nt) (l : List Nt) (n : Nat) (w : World) (hnl : (x :: l).length = n) (ha : SlAt w va n 6 (vcC (x :: l))) (hn : n ≤ 1048576) :
    Calls Tryd.prog 63 #[va] w fun e w' => e = .returned (.bool (ldB (x :: l))) ∧ Below w.heap.size w w' := by
  have hO := Own.start w
  have hF := True.intro
  have h0 : 0 < n := by rw [← hnl]; simp
  have h0' : (0 : Int) < n := by omega
  obtain ⟨A, c, rfl, nb, hA⟩ := ha.open
  obtain ⟨b, off, rfl, hc1, hc2, hb⟩ := hA h0
  have HA := hid ha
  clear ha hA
  obtain ⟨d0, d1, d2, d3, d4, d5⟩ := noteAt HA.out (j := 0) (x := x) rfl
  simp only [Nat.zero_mul, Nat.add_zero] at d0 d1 d2 d3 d4 d5
  cases hy : x.y
  · rw [hy] at d5
    have HE := hid (show ldB (x :: l) = true by cases l <;> simp [ldB, hy])
    clear hy hnl
    go_enter Tryd.func63, Tryd.ntmps63
    go_wp2
    go_ret
    exact ⟨ret_bool HE.out.symm, hO.base⟩
  · rw [hy] at d5
    have HY := hid hy
    cases l with
    | nil =>
      have HE := hid (show ldB [x] = false by simp [ldB, hy])
      obtain rfl : n = 1 := by simpa using hnl.symm
      clear hy hnl
      go_enter Tryd.func63, Tryd.ntmps63
      go_wp2
      apply own_code hO
      (repeat (first | (with_reducible exact hO) | (with_reducible apply Own.alloc) | (with_reducible apply Own.drew) | ((with_reducible apply Own.set_at); (focus (show _ ≤ _; omega)))))
      have hG := hF; clear hF; clear hO; intro hO
      (try simp only [World.size_alloc1, World.size_drew, Nat.reduceAdd] at hO); (try simp only [upd, updI, List.map_cons, List.map_nil, eq_self, if_true, if_false, reduceIte, Nat.add_eq_left, Nat.left_eq_add, Nat.reduceEqDiff, List.set_cons_zero, List.set_cons_succ, hG] at hO); clear hG
      refine region_own (X := fun _ => True) [] (by kernel_rfl) (hO) (trivial) (by first | exact XStab.true | exact XStab.rd | exact XStab.rdIf) ?_
      clear hO
      refine Sim.sP (i := 0) (d := some 8) (h := ?_)
      refine Sim.sO (i := 1) (d := some 9) (v := ?_) (hy := ?_) (h := ?_)
      rotate_left
      · first | refine Or.inl ⟨by rfl, fun w hO => ?_⟩ | (refine Or.inr ⟨by rfl, ?_⟩; with_reducible rfl)
        first | done | (have hF := hO; (try simp only [Own, Item.Holds, apartI, CellsAt, Nat.reduceAdd, Nat.zero_add, List.mem_cons, List.not_mem_nil, or_false, forall_eq_or_imp, forall_eq, ne_eq, false_imp_iff, implies_true, and_true] at hF); (skip); refine Out.same ?_; go_simp; all_goals with_reducible rfl)
      refine Sim.sP (i := 2) (d := some 10) (h := ?_)
      refine Sim.sP (i := 3) (d := some 11) (h := ?_)
      refine Sim.sP (i := 4) (d := some 12) (h := ?_)
      refine Sim.sP (i := 5) (d := some 13) (h := ?_)
      refine Sim.sP (i := 6) (d := some 14) (h := ?_)
      refine Sim.sO (i := 7) (d := some 15) (v := ?_) (hy := ?_) (h := ?_)
      rotate_left
      · first | refine Or.inl ⟨by rfl, fun w hO => ?_⟩ | (refine Or.inr ⟨by rfl, ?_⟩; with_reducible rfl)
        first | done | (have hF := hO; (try simp only [Own, Item.Holds, apartI, CellsAt, Nat.reduceAdd, Nat.zero_add, List.mem_cons, List.not_mem_nil, or_false, forall_eq_or_imp, forall_eq, ne_eq, false_imp_iff, implies_true, and_true] at hF); (skip); refine Out.same ?_; go_simp; all_goals with_reducible rfl)
      refine Sim.sP (i := 8) (d := some 16) (h := ?_)
      refine Sim.sP (i := 9) (d := some 17) (h := ?_)
      refine Sim.sP (i := 10) (d := some 18) (h := ?_)
      refine Sim.sP (i := 11) (d := some 19) (h := ?_)
      refine Sim.sP (i := 12) (d := some 20) (h := ?_)
      refine Sim.sP (i := 13) (d := some 21) (h := ?_)
      refine Sim.sO (i := 14) (d := some 22) (v := ?_) (hy := ?_) (h := ?_)
      rotate_left
      · first | refine Or.inl ⟨by rfl, fun w hO => ?_⟩ | (refine Or.inr ⟨by rfl, ?_⟩; with_reducible rfl)
        first | done | (have hF := hO; (try simp only [Own, Item.Holds, apartI, CellsAt, Nat.reduceAdd, Nat.zero_add, List.mem_cons, List.not_mem_nil, or_false, forall_eq_or_imp, forall_eq, ne_eq, false_imp_iff, implies_true, and_true] at hF); (skip); refine Out.same ?_; go_simp; all_goals with_reducible rfl)
      refine Sim.sP (i := 15) (d := some 23) (h := ?_)
      refine Sim.sP (i := 16) (d := some 24) (h := ?_)
      refine Sim.sP (i := 17) (d := some 25) (h := ?_)
      refine Sim.sO (i := 18) (d := some 26) (v := ?_) (hy := ?_) (h := ?_)
      rotate_left
      · first | refine Or.inl ⟨by rfl, fun w hO => ?_⟩ | (refine Or.inr ⟨by rfl, ?_⟩; with_reducible rfl)
        first | done | (have hF := hO; (try simp only [Own, Item.Holds, apartI, CellsAt, Nat.reduceAdd, Nat.zero_add, List.mem_cons, List.not_mem_nil, or_false, forall_eq_or_imp, forall_eq, ne_eq, false_imp_iff, implies_true, and_true] at hF); (skip); refine Out.same ?_; go_simp; all_goals with_reducible rfl)
      refine Sim.sP (i := 19) (d := some 27) (h := ?_)
      refine Sim.sP (i := 20) (d := some 28) (h := ?_)
      refine Sim.sP (i := 21) (d := some 2) (h := ?_)
      refine Sim.done (by kernel_rfl) (fun w1 hO hX => ?_) _
      (try simp only [World.size_alloc1, World.size_drew, Nat.reduceAdd] at hO); (try simp only [upd, updI, List.map_cons, List.map_nil, eq_self, if_true, if_false, reduceIte, Nat.add_eq_left, Nat.left_eq_add, Nat.reduceEqDiff, List.set_cons_zero, List.set_cons_succ] at hO)
      have hF := hO; (try simp only [Own, Item.Holds, apartI, CellsAt, Nat.reduceAdd, Nat.zero_add, List.mem_cons, List.not_mem_nil, or_false, forall_eq_or_imp, forall_eq, ne_eq, false_imp_iff, implies_true, and_true] at hF)
      go_wp2
      go_ret
      exact ⟨ret_bool HE.out.symm, hO.base⟩
    | cons z l =>
      have h1 : 1 < n := by rw [← hnl]; simp
      have h1' : (1 : Int) < n := by omega
      have HZ := hid (show (x :: z :: l)[1]? = some z from rfl)
      have HX := hid (show (x :: z :: l)[0]? = some x from rfl)
      clear hnl d0 d1 d2 d3 d4
      cases hr : z.r
      · have HE := hid (show ldB (x :: z :: l) = toneB x z by simp [ldB, hy, hr])
        have HR := hid hr
        clear hy hr
        by_cases e1 : z.s = x.s
        · by_cases e2 : z.a = x.a
          · by_cases e3 : z.o = x.o
            · have HE2 := hid (show ldB (x :: z :: l) = true by rw [HE.out]; unfold toneB; simp_all)
              go_enter Tryd.func63, Tryd.ntmps63
              go_wp2
              apply own_code hO
              (repeat (first | (with_reducible exact hO) | (with_reducible apply Own.alloc) | (with_reducible apply Own.drew) | ((with_reducible apply Own.set_at); (focus (show _ ≤ _; omega)))))
              have hG := hF; clear hF; clear hO; intro hO
              (try simp only [World.size_alloc1, World.size_drew, Nat.reduceAdd] at hO); (try simp only [upd, updI, List.map_cons, List.map_nil, eq_self, if_true, if_false, reduceIte, Nat.add_eq_left, Nat.left_eq_add, Nat.reduceEqDiff, List.set_cons_zero, List.set_cons_succ, hG] at hO); clear hG
              refine region_own (X := fun _ => True) [] (by kernel_rfl) (hO) (trivial) (by first | exact XStab.true | exact XStab.rd | exact XStab.rdIf) ?_
              clear hO
              refine Sim.sP (i := 0) (d := some 8) (h := ?_)
              refine Sim.sO (i := 1) (d := some 9) (v := ?_) (hy := ?_) (h := ?_)
              rotate_left
              · first | refine Or.inl ⟨by rfl, fun w hO => ?_⟩ | (refine Or.inr ⟨by rfl, ?_⟩; with_reducible rfl)
                first | done | (have hF := hO; (try simp only [Own, Item.Holds, apartI, CellsAt, Nat.reduceAdd, Nat.zero_add, List.mem_cons, List.not_mem_nil, or_false, forall_eq_or_imp, forall_eq, ne_eq, false_imp_iff, implies_true, and_true] at hF); ((have ⟨d0, d1, d2, d3, d4, d5⟩ := noteAt (HA.out.below hO.base) HX.out; have ⟨g0, g1, g2, g3, g4, g5⟩ := noteAt (HA.out.below hO.base) HZ.out; simp only [Nat.zero_mul, Nat.one_mul, Nat.add_zero] at d0 d1 d2 d3 d4 d5 g0 g1 g2 g3 g4 g5; rw [HR.out] at g0)); refine Out.same ?_; go_simp; all_goals with_reducible rfl)
              refine Sim.sP (i := 2) (d := some 10) (h := ?_)
              refine Sim.sP (i := 3) (d := some 11) (h := ?_)
              refine Sim.sP (i := 4) (d := some 12) (h := ?_)
              refine Sim.sP (i := 5) (d := some 13) (h := ?_)
              refine Sim.sP (i := 6) (d := some 14) (h := ?_)
              refine Sim.sO (i := 7) (d := some 15) (v := ?_) (hy := ?_) (h := ?_)
              rotate_left
              · first | refine Or.inl ⟨by rfl, fun w hO => ?_⟩ | (refine Or.inr ⟨by rfl, ?_⟩; with_reducible rfl)
                first | done | (have hF := hO; (try simp only [Own, Item.Holds, apartI, CellsAt, Nat.reduceAdd, Nat.zero_add, List.mem_cons, List.not_mem_nil, or_false, forall_eq_or_imp, forall_eq, ne_eq, false_imp_iff, implies_true, and_true] at hF); ((have ⟨d0, d1, d2, d3, d4, d5⟩ := noteAt (HA.out.below hO.base) HX.out; have ⟨g0, g1, g2, g3, g4, g5⟩ := noteAt (HA.out.below hO.base) HZ.out; simp only [Nat.zero_mul, Nat.one_mul, Nat.add_zero] at d0 d1 d2 d3 d4 d5 g0 g1 g2 g3 g4 g5; rw [HR.out] at g0)); refine Out.same ?_; go_simp; all_goals with_reducible rfl)
              refine Sim.sP (i := 8) (d := some 16) (h := ?_)
              refine Sim.sP (i := 9) (d := some 17) (h := ?_)
              refine Sim.sP (i := 10) (d := some 18) (h := ?_)
              refine Sim.sP (i := 11) (d := some 19) (h := ?_)
              refine Sim.sP (i := 12) (d := some 20) (h := ?_)
              refine Sim.sP (i := 13) (d := some 21) (h := ?_)
              refine Sim.sO (i := 14) (d := some 22) (v := ?_) (hy := ?_) (h := ?_)
              rotate_left
              · first | refine Or.inl ⟨by rfl, fun w hO => ?_⟩ | (refine Or.inr ⟨by rfl, ?_⟩; with_reducible rfl)
                first | done | (have hF := hO; (try simp only [Own, Item.Holds, apartI, CellsAt, Nat.reduceAdd, Nat.zero_add, List.mem_cons, List.not_mem_nil, or_false, forall_eq_or_imp, forall_eq, ne_eq, false_imp_iff, implies_true, and_true] at hF); ((have ⟨d0, d1, d2, d3, d4, d5⟩ := noteAt (HA.out.below hO.base) HX.out; have ⟨g0, g1, g2, g3, g4, g5⟩ := noteAt (HA.out.below hO.base) HZ.out; simp only [Nat.zero_mul, Nat.one_mul, Nat.add_zero] at d0 d1 d2 d3 d4 d5 g0 g1 g2 g3 g4 g5; rw [HR.out] at g0)); refine Out.same ?_; go_simp; all_goals with_reducible rfl)
              refine Sim.sP (i := 15) (d := some 23) (h := ?_)
              refine Sim.sP (i := 16) (d := some 24) (h := ?_)
              refine Sim.sP (i := 17) (d := some 25) (h := ?_)
              refine Sim.sO (i := 18) (d := some 26) (v := ?_) (hy := ?_) (h := ?_)
              rotate_left
              · first | refine Or.inl ⟨by rfl, fun w hO => ?_⟩ | (refine Or.inr ⟨by rfl, ?_⟩; with_reducible rfl)
                first | done | (have hF := hO; (try simp only [Own, Item.Holds, apartI, CellsAt, Nat.reduceAdd, Nat.zero_add, List.mem_cons, List.not_mem_nil, or_false, forall_eq_or_imp, forall_eq, ne_eq, false_imp_iff, implies_true, and_true] at hF); ((have ⟨d0, d1, d2, d3, d4, d5⟩ := noteAt (HA.out.below hO.base) HX.out; have ⟨g0, g1, g2, g3, g4, g5⟩ := noteAt (HA.out.below hO.base) HZ.out; simp only [Nat.zero_mul, Nat.one_mul, Nat.add_zero] at d0 d1 d2 d3 d4 d5 g0 g1 g2 g3 g4 g5; rw [HR.out] at g0)); refine Out.same ?_; go_simp; all_goals with_reducible rfl)
              refine Sim.sP (i := 19) (d := some 27) (h := ?_)
              refine Sim.sP (i := 20) (d := some 28) (h := ?_)
              refine Sim.sP (i := 21) (d := some 2) (h := ?_)
              refine Sim.done (by kernel_rfl) (fun w1 hO hX => ?_) _
              (try simp only [World.size_alloc1, World.size_drew, Nat.reduceAdd] at hO); (try simp only [upd, updI, List.map_cons, List.map_nil, eq_self, if_true, if_false, reduceIte, Nat.add_eq_left, Nat.left_eq_add, Nat.reduceEqDiff, List.set_cons_zero, List.set_cons_succ] at hO)
              have hF := hO; (try simp only [Own, Item.Holds, apartI, CellsAt, Nat.reduceAdd, Nat.zero_add, List.mem_cons, List.not_mem_nil, or_false, forall_eq_or_imp, forall_eq, ne_eq, false_imp_iff, implies_true, and_true] at hF)
              go_wp2
              go_ret
              exact ⟨ret_bool HE2.out.symm, hO.base⟩
            · have HE2 := hid (show ldB (x :: z :: l) = false by rw [HE.out]; unfold toneB; simp_all)
              go_enter Tryd.func63, Tryd.ntmps63
              go_wp2
              apply own_code hO
              (repeat (first | (with_reducible exact hO) | (with_reducible apply Own.alloc) | (with_reducible apply Own.drew) | ((with_reducible apply Own.set_at); (focus (show _ ≤ _; omega)))))
              have hG := hF; clear hF; clear hO; intro hO
              (try simp only [World.size_alloc1, World.size_drew, Nat.reduceAdd] at hO); (try simp only [upd, updI, List.map_cons, List.map_nil, eq_self, if_true, if_false, reduceIte, Nat.add_eq_left, Nat.left_eq_add, Nat.reduceEqDiff, List.set_cons_zero, List.set_cons_succ, hG] at hO); clear hG
              refine region_own (X := fun _ => True) [] (by kernel_rfl) (hO) (trivial) (by first | exact XStab.true | exact XStab.rd | exact XStab.rdIf) ?_
              clear hO
              refine Sim.sP (i := 0) (d := some 8) (h := ?_)
              refine Sim.sO (i := 1) (d := some 9) (v := ?_) (hy := ?_) (h := ?_)
              rotate_left
              · first | refine Or.inl ⟨by rfl, fun w hO => ?_⟩ | (refine Or.inr ⟨by rfl, ?_⟩; with_reducible rfl)
                first | done | (have hF := hO; (try simp only [Own, Item.Holds, apartI, CellsAt, Nat.reduceAdd, Nat.zero_add, List.mem_cons, List.not_mem_nil, or_false, forall_eq_or_imp, forall_eq, ne_eq, false_imp_iff, implies_true, and_true] at hF); ((have ⟨d0, d1, d2, d3, d4, d5⟩ := noteAt (HA.out.below hO.base) HX.out; have ⟨g0, g1, g2, g3, g4, g5⟩ := noteAt (HA.out.below hO.base) HZ.out; simp only [Nat.zero_mul, Nat.one_mul, Nat.add_zero] at d0 d1 d2 d3 d4 d5 g0 g1 g2 g3 g4 g5; rw [HR.out] at g0)); refine Out.same ?_; go_simp; all_goals with_reducible rfl)
              refine Sim.sP (i := 2) (d := some 10) (h := ?_)
              refine Sim.sP (i := 3) (d := some 11) (h := ?_)
              refine Sim.sP (i := 4) (d := some 12) (h := ?_)
              refine Sim.sP (i := 5) (d := some 13) (h := ?_)
              refine Sim.sP (i := 6) (d := some 14) (h := ?_)
              refine Sim.sO (i := 7) (d := some 15) (v := ?_) (hy := ?_) (h := ?_)
              rotate_left
              · first | refine Or.inl ⟨by rfl, fun w hO => ?_⟩ | (refine Or.inr ⟨by rfl, ?_⟩; with_reducible rfl)
                first | done | (have hF := hO; (try simp only [Own, Item.Holds, apartI, CellsAt, Nat.reduceAdd, Nat.zero_add, List.mem_cons, List.not_mem_nil, or_false, forall_eq_or_imp, forall_eq, ne_eq, false_imp_iff, implies_true, and_true] at hF); ((have ⟨d0, d1, d2, d3, d4, d5⟩ := noteAt (HA.out.below hO.base) HX.out; have ⟨g0, g1, g2, g3, g4, g5⟩ := noteAt (HA.out.below hO.base) HZ.out; simp only [Nat.zero_mul, Nat.one_mul, Nat.add_zero] at d0 d1 d2 d3 d4 d5 g0 g1 g2 g3 g4 g5; rw [HR.out] at g0)); refine Out.same ?_; go_simp; all_goals with_reducible rfl)
              refine Sim.sP (i := 8) (d := some 16) (h := ?_)
              refine Sim.sP (i := 9) (d := some 17) (h := ?_)
              refine Sim.sP (i := 10) (d := some 18) (h := ?_)
              refine Sim.sP (i := 11) (d := some 19) (h := ?_)
              refine Sim.sP (i := 12) (d := some 20) (h := ?_)
              refine Sim.sP (i := 13) (d := some 21) (h := ?_)
              refine Sim.sO (i := 14) (d := some 22) (v := ?_) (hy := ?_) (h := ?_)
              rotate_left
              · first | refine Or.inl ⟨by rfl, fun w hO => ?_⟩ | (refine Or.inr ⟨by rfl, ?_⟩; with_reducible rfl)
                first | done | (have hF := hO; (try simp only [Own, Item.Holds, apartI, CellsAt, Nat.reduceAdd, Nat.zero_add, List.mem_cons, List.not_mem_nil, or_false, forall_eq_or_imp, forall_eq, ne_eq, false_imp_iff, implies_true, and_true] at hF); ((have ⟨d0, d1, d2, d3, d4, d5⟩ := noteAt (HA.out.below hO.base) HX.out; have ⟨g0, g1, g2, g3, g4, g5⟩ := noteAt (HA.out.below hO.base) HZ.out; simp only [Nat.zero_mul, Nat.one_mul, Nat.add_zero] at d0 d1 d2 d3 d4 d5 g0 g1 g2 g3 g4 g5; rw [HR.out] at g0)); refine Out.same ?_; go_simp; all_goals with_reducible rfl)
              refine Sim.sP (i := 15) (d := some 23) (h := ?_)
              refine Sim.sP (i := 16) (d := some 24) (h := ?_)
              refine Sim.sP (i := 17) (d := some 25) (h := ?_)
              refine Sim.sO (i := 18) (d := some 26) (v := ?_) (hy := ?_) (h := ?_)
              rotate_left
              · first | refine Or.inl ⟨by rfl, fun w hO => ?_⟩ | (refine Or.inr ⟨by rfl, ?_⟩; with_reducible rfl)
                first | done | (have hF := hO; (try simp only [Own, Item.Holds, apartI, CellsAt, Nat.reduceAdd, Nat.zero_add, List.mem_cons, List.not_mem_nil, or_false, forall_eq_or_imp, forall_eq, ne_eq, false_imp_iff, implies_true, and_true] at hF); ((have ⟨d0, d1, d2, d3, d4, d5⟩ := noteAt (HA.out.below hO.base) HX.out; have ⟨g0, g1, g2, g3, g4, g5⟩ := noteAt (HA.out.below hO.base) HZ.out; simp only [Nat.zero_mul, Nat.one_mul, Nat.add_zero] at d0 d1 d2 d3 d4 d5 g0 g1 g2 g3 g4 g5; rw [HR.out] at g0)); refine Out.same ?_; go_simp; all_goals with_reducible rfl)
              refine Sim.sP (i := 19) (d := some 27) (h := ?_)
              refine Sim.sP (i := 20) (d := some 28) (h := ?_)
              refine Sim.sP (i := 21) (d := some 2) (h := ?_)
              refine Sim.done (by kernel_rfl) (fun w1 hO hX => ?_) _
              (try simp only [World.size_alloc1, World.size_drew, Nat.reduceAdd] at hO); (try simp only [upd, updI, List.map_cons, List.map_nil, eq_self, if_true, if_false, reduceIte, Nat.add_eq_left, Nat.left_eq_add, Nat.reduceEqDiff, List.set_cons_zero, List.set_cons_succ] at hO)
              have hF := hO; (try simp only [Own, Item.Holds, apartI, CellsAt, Nat.reduceAdd, Nat.zero_add, List.mem_cons, List.not_mem_nil, or_false, forall_eq_or_imp, forall_eq, ne_eq, false_imp_iff, implies_true, and_true] at hF)
              go_wp2
              go_ret
              exact ⟨ret_bool HE2.out.symm, hO.base⟩
          · have HE2 := hid (show ldB (x :: z :: l) = false by rw [HE.out]; unfold toneB; simp_all)
            go_enter Tryd.func63, Tryd.ntmps63
            go_wp2
            apply own_code hO
            (repeat (first | (with_reducible exact hO) | (with_reducible apply Own.alloc) | (with_reducible apply Own.drew) | ((with_reducible apply Own.set_at); (focus (show _ ≤ _; omega)))))
            have hG := hF; clear hF; clear hO; intro hO
            (try simp only [World.size_alloc1, World.size_drew, Nat.reduceAdd] at hO); (try simp only [upd, updI, List.map_cons, List.map_nil, eq_self, if_true, if_false, reduceIte, Nat.add_eq_left, Nat.left_eq_add, Nat.reduceEqDiff, List.set_cons_zero, List.set_cons_succ, hG] at hO); clear hG
            refine region_own (X := fun _ => True) [] (by kernel_rfl) (hO) (trivial) (by first | exact XStab.true | exact XStab.rd | exact XStab.rdIf) ?_
            clear hO
            refine Sim.sP (i := 0) (d := some 8) (h := ?_)
            refine Sim.sO (i := 1) (d := some 9) (v := ?_) (hy := ?_) (h := ?_)
            rotate_left
            · first | refine Or.inl ⟨by rfl, fun w hO => ?_⟩ | (refine Or.inr ⟨by rfl, ?_⟩; with_reducible rfl)
              first | done | (have hF := hO; (try simp only [Own, Item.Holds, apartI, CellsAt, Nat.reduceAdd, Nat.zero_add, List.mem_cons, List.not_mem_nil, or_false, forall_eq_or_imp, forall_eq, ne_eq, false_imp_iff, implies_true, and_true] at hF); ((have ⟨d0, d1, d2, d3, d4, d5⟩ := noteAt (HA.out.below hO.base) HX.out; have ⟨g0, g1, g2, g3, g4, g5⟩ := noteAt (HA.out.below hO.base) HZ.out; simp only [Nat.zero_mul, Nat.one_mul, Nat.add_zero] at d0 d1 d2 d3 d4 d5 g0 g1 g2 g3 g4 g5; rw [HR.out] at g0)); refine Out.same ?_; go_simp; all_goals with_reducible rfl)
            refine Sim.sP (i := 2) (d := some 10) (h := ?_)
            refine Sim.sP (i := 3) (d := some 11) (h := ?_)
            refine Sim.sP (i := 4) (d := some 12) (h := ?_)
            refine Sim.sP (i := 5) (d := some 13) (h := ?_)
            refine Sim.sP (i := 6) (d := some 14) (h := ?_)
            refine Sim.sO (i := 7) (d := some 15) (v := ?_) (hy := ?_) (h := ?_)
            rotate_left
            · first | refine Or.inl ⟨by rfl, fun w hO => ?_⟩ | (refine Or.inr ⟨by rfl, ?_⟩; with_reducible rfl)
              first | done | (have hF := hO; (try simp only [Own, Item.Holds, apartI, CellsAt, Nat.reduceAdd, Nat.zero_add, List.mem_cons, List.not_mem_nil, or_false, forall_eq_or_imp, forall_eq, ne_eq, false_imp_iff, implies_true, and_true] at hF); ((have ⟨d0, d1, d2, d3, d4, d5⟩ := noteAt (HA.out.below hO.base) HX.out; have ⟨g0, g1, g2, g3, g4, g5⟩ := noteAt (HA.out.below hO.base) HZ.out; simp only [Nat.zero_mul, Nat.one_mul, Nat.add_zero] at d0 d1 d2 d3 d4 d5 g0 g1 g2 g3 g4 g5; rw [HR.out] at g0)); refine Out.same ?_; go_simp; all_goals with_reducible rfl)
            refine Sim.sP (i := 8) (d := some 16) (h := ?_)
            refine Sim.sP (i := 9) (d := some 17) (h := ?_)
            refine Sim.sP (i := 10) (d := some 18) (h := ?_)
            refine Sim.sP (i := 11) (d := some 19) (h := ?_)
            refine Sim.sP (i := 12) (d := some 20) (h := ?_)
            refine Sim.sP (i := 13) (d := some 21) (h := ?_)
            refine Sim.sO (i := 14) (d := some 22) (v := ?_) (hy := ?_) (h := ?_)
            rotate_left
            · first | refine Or.inl ⟨by rfl, fun w hO => ?_⟩ | (refine Or.inr ⟨by rfl, ?_⟩; with_reducible rfl)
              first | done | (have hF := hO; (try simp only [Own, Item.Holds, apartI, CellsAt, Nat.reduceAdd, Nat.zero_add, List.mem_cons, List.not_mem_nil, or_false, forall_eq_or_imp, forall_eq, ne_eq, false_imp_iff, implies_true, and_true] at hF); ((have ⟨d0, d1, d2, d3, d4, d5⟩ := noteAt (HA.out.below hO.base) HX.out; have ⟨g0, g1, g2, g3, g4, g5⟩ := noteAt (HA.out.below hO.base) HZ.out; simp only [Nat.zero_mul, Nat.one_mul, Nat.add_zero] at d0 d1 d2 d3 d4 d5 g0 g1 g2 g3 g4 g5; rw [HR.out] at g0)); refine Out.same ?_; go_simp; all_goals with_reducible rfl)
            refine Sim.sP (i := 15) (d := some 23) (h := ?_)
            refine Sim.sP (i := 16) (d := some 24) (h := ?_)
            refine Sim.sP (i := 17) (d := some 25) (h := ?_)
            refine Sim.sO (i := 18) (d := some 26) (v := ?_) (hy := ?_) (h := ?_)
            rotate_left
            · first | refine Or.inl ⟨by rfl, fun w hO => ?_⟩ | (refine Or.inr ⟨by rfl, ?_⟩; with_reducible rfl)
              first | done | (have hF := hO; (try simp only [Own, Item.Holds, apartI, CellsAt, Nat.reduceAdd, Nat.zero_add, List.mem_cons, List.not_mem_nil, or_false, forall_eq_or_imp, forall_eq, ne_eq, false_imp_iff, implies_true, and_true] at hF); ((have ⟨d0, d1, d2, d3, d4, d5⟩ := noteAt (HA.out.below hO.base) HX.out; have ⟨g0, g1, g2, g3, g4, g5⟩ := noteAt (HA.out.below hO.base) HZ.out; simp only [Nat.zero_mul, Nat.one_mul, Nat.add_zero] at d0 d1 d2 d3 d4 d5 g0 g1 g2 g3 g4 g5; rw [HR.out] at g0)); refine Out.same ?_; go_simp; all_goals with_reducible rfl)
            refine Sim.sP (i := 19) (d := some 27) (h := ?_)
            refine Sim.sP (i := 20) (d := some 28) (h := ?_)
            refine Sim.sP (i := 21) (d := some 2) (h := ?_)
            refine Sim.done (by kernel_rfl) (fun w1 hO hX => ?_) _
            (try simp only [World.size_alloc1, World.size_drew, Nat.reduceAdd] at hO); (try simp only [upd, updI, List.map_cons, List.map_nil, eq_self, if_true, if_false, reduceIte, Nat.add_eq_left, Nat.left_eq_add, Nat.reduceEqDiff, List.set_cons_zero, List.set_cons_succ] at hO)
            have hF := hO; (try simp only [Own, Item.Holds, apartI, CellsAt, Nat.reduceAdd, Nat.zero_add, List.mem_cons, List.not_mem_nil, or_false, forall_eq_or_imp, forall_eq, ne_eq, false_imp_iff, implies_true, and_true] at hF)
            go_wp2
            go_ret
            exact ⟨ret_bool HE2.out.symm, hO.base⟩
        · have HE2 := hid (show ldB (x :: z :: l) = false by rw [HE.out]; unfold toneB; simp_all)
          go_enter Tryd.func63, Tryd.ntmps63
          go_wp2
          apply own_code hO
          (repeat (first | (with_reducible exact hO) | (with_reducible apply Own.alloc) | (with_reducible apply Own.drew) | ((with_reducible apply Own.set_at); (focus (show _ ≤ _; omega)))))
          have hG := hF; clear hF; clear hO; intro hO
          (try simp only [World.size_alloc1, World.size_drew, Nat.reduceAdd] at hO); (try simp only [upd, updI, List.map_cons, List.map_nil, eq_self, if_true, if_false, reduceIte, Nat.add_eq_left, Nat.left_eq_add, Nat.reduceEqDiff, List.set_cons_zero, List.set_cons_succ, hG] at hO); clear hG
          refine region_own (X := fun _ => True) [] (by kernel_rfl) (hO) (trivial) (by first | exact XStab.true | exact XStab.rd | exact XStab.rdIf) ?_
          clear hO
          refine Sim.sP (i := 0) (d := some 8) (h := ?_)
          refine Sim.sO (i := 1) (d := some 9) (v := ?_) (hy := ?_) (h := ?_)
          rotate_left
          · first | refine Or.inl ⟨by rfl, fun w hO => ?_⟩ | (refine Or.inr ⟨by rfl, ?_⟩; with_reducible rfl)
            first | done | (have hF := hO; (try simp only [Own, Item.Holds, apartI, CellsAt, Nat.reduceAdd, Nat.zero_add, List.mem_cons, List.not_mem_nil, or_false, forall_eq_or_imp, forall_eq, ne_eq, false_imp_iff, implies_true, and_true] at hF); ((have ⟨d0, d1, d2, d3, d4, d5⟩ := noteAt (HA.out.below hO.base) HX.out; have ⟨g0, g1, g2, g3, g4, g5⟩ := noteAt (HA.out.below hO.base) HZ.out; simp only [Nat.zero_mul, Nat.one_mul, Nat.add_zero] at d0 d1 d2 d3 d4 d5 g0 g1 g2 g3 g4 g5; rw [HR.out] at g0)); refine Out.same ?_; go_simp; all_goals with_reducible rfl)
          refine Sim.sP (i := 2) (d := some 10) (h := ?_)
          refine Sim.sP (i := 3) (d := some 11) (h := ?_)
          refine Sim.sP (i := 4) (d := some 12) (h := ?_)
          refine Sim.sP (i := 5) (d := some 13) (h := ?_)
          refine Sim.sP (i := 6) (d := some 14) (h := ?_)
          refine Sim.sO (i := 7) (d := some 15) (v := ?_) (hy := ?_) (h := ?_)
          rotate_left
          · first | refine Or.inl ⟨by rfl, fun w hO => ?_⟩ | (refine Or.inr ⟨by rfl, ?_⟩; with_reducible rfl)
            first | done | (have hF := hO; (try simp only [Own, Item.Holds, apartI, CellsAt, Nat.reduceAdd, Nat.zero_add, List.mem_cons, List.not_mem_nil, or_false, forall_eq_or_imp, forall_eq, ne_eq, false_imp_iff, implies_true, and_true] at hF); ((have ⟨d0, d1, d2, d3, d4, d5⟩ := noteAt (HA.out.below hO.base) HX.out; have ⟨g0, g1, g2, g3, g4, g5⟩ := noteAt (HA.out.below hO.base) HZ.out; simp only [Nat.zero_mul, Nat.one_mul, Nat.add_zero] at d0 d1 d2 d3 d4 d5 g0 g1 g2 g3 g4 g5; rw [HR.out] at g0)); refine Out.same ?_; go_simp; all_goals with_reducible rfl)
          refine Sim.sP (i := 8) (d := some 16) (h := ?_)
          refine Sim.sP (i := 9) (d := some 17) (h := ?_)
          refine Sim.sP (i := 10) (d := some 18) (h := ?_)
          refine Sim.sP (i := 11) (d := some 19) (h := ?_)
          refine Sim.sP (i := 12) (d := some 20) (h := ?_)
          refine Sim.sP (i := 13) (d := some 21) (h := ?_)
          refine Sim.sO (i := 14) (d := some 22) (v := ?_) (hy := ?_) (h := ?_)
          rotate_left
          · first | refine Or.inl ⟨by rfl, fun w hO => ?_⟩ | (refine Or.inr ⟨by rfl, ?_⟩; with_reducible rfl)
            first | done | (have hF := hO; (try simp only [Own, Item.Holds, apartI, CellsAt, Nat.reduceAdd, Nat.zero_add, List.mem_cons, List.not_mem_nil, or_false, forall_eq_or_imp, forall_eq, ne_eq, false_imp_iff, implies_true, and_true] at hF); ((have ⟨d0, d1, d2, d3, d4, d5⟩ := noteAt (HA.out.below hO.base) HX.out; have ⟨g0, g1, g2, g3, g4, g5⟩ := noteAt (HA.out.below hO.base) HZ.out; simp only [Nat.zero_mul, Nat.one_mul, Nat.add_zero] at d0 d1 d2 d3 d4 d5 g0 g1 g2 g3 g4 g5; rw [HR.out] at g0)); refine Out.same ?_; go_simp; all_goals with_reducible rfl)
          refine Sim.sP (i := 15) (d := some 23) (h := ?_)
          refine Sim.sP (i := 16) (d := some 24) (h := ?_)
          refine Sim.sP (i := 17) (d := some 25) (h := ?_)
          refine Sim.sO (i := 18) (d := some 26) (v := ?_) (hy := ?_) (h := ?_)
          rotate_left
          · first | refine Or.inl ⟨by rfl, fun w hO => ?_⟩ | (refine Or.inr ⟨by rfl, ?_⟩; with_reducible rfl)
            first | done | (have hF := hO; (try simp only [Own, Item.Holds, apartI, CellsAt, Nat.reduceAdd, Nat.zero_add, List.mem_cons, List.not_mem_nil, or_false, forall_eq_or_imp, forall_eq, ne_eq, false_imp_iff, implies_true, and_true] at hF); ((have ⟨d0, d1, d2, d3, d4, d5⟩ := noteAt (HA.out.below hO.base) HX.out; have ⟨g0, g1, g2, g3, g4, g5⟩ := noteAt (HA.out.below hO.base) HZ.out; simp only [Nat.zero_mul, Nat.one_mul, Nat.add_zero] at d0 d1 d2 d3 d4 d5 g0 g1 g2 g3 g4 g5; rw [HR.out] at g0)); refine Out.same ?_; go_simp; all_goals with_reducible rfl)
          refine Sim.sP (i := 19) (d := some 27) (h := ?_)
          refine Sim.sP (i := 20) (d := some 28) (h := ?_)
          refine Sim.sP (i := 21) (d := some 2) (h := ?_)
          refine Sim.done (by kernel_rfl) (fun w1 hO hX => ?_) _
          (try simp only [World.size_alloc1, World.size_drew, Nat.reduceAdd] at hO); (try simp only [upd, updI, List.map_cons, List.map_nil, eq_self, if_true, if_false, reduceIte, Nat.add_eq_left, Nat.left_eq_add, Nat.reduceEqDiff, List.set_cons_zero, List.set_cons_succ] at hO)
          have hF := hO; (try simp only [Own, Item.Holds, apartI, CellsAt, Nat.reduceAdd, Nat.zero_add, List.mem_cons, List.not_mem_nil, or_false, forall_eq_or_imp, forall_eq, ne_eq, false_imp_iff, implies_true, and_true] at hF)
          go_wp2
          go_ret
          exact ⟨ret_bool HE2.out.symm, hO.base⟩
      · have HE := hid (show ldB (x :: z :: l) = false by simp [ldB, hy, hr])
        have HR := hid hr
        clear hy hr
        go_enter Tryd.func63, Tryd.ntmps63
        go_wp2
        apply own_code hO
        (repeat (first | (with_reducible exact hO) | (with_reducible apply Own.alloc) | (with_reducible apply Own.drew) | ((with_reducible apply Own.set_at); (focus (show _ ≤ _; omega)))))
        have hG := hF; clear hF; clear hO; intro hO
        (try simp only [World.size_alloc1, World.size_drew, Nat.reduceAdd] at hO); (try simp only [upd, updI, List.map_cons, List.map_nil, eq_self, if_true, if_false, reduceIte, Nat.add_eq_left, Nat.left_eq_add, Nat.reduceEqDiff, List.set_cons_zero, List.set_cons_succ, hG] at hO); clear hG
        refine region_own (X := fun _ => True) [] (by kernel_rfl) (hO) (trivial) (by first | exact XStab.true | exact XStab.rd | exact XStab.rdIf) ?_
        clear hO
        refine Sim.sP (i := 0) (d := some 8) (h := ?_)
        refine Sim.sO (i := 1) (d := some 9) (v := ?_) (hy := ?_) (h := ?_)
        rotate_left
        · first | refine Or.inl ⟨by rfl, fun w hO => ?_⟩ | (refine Or.inr ⟨by rfl, ?_⟩; with_reducible rfl)
          first | done | (have hF := hO; (try simp only [Own, Item.Holds, apartI, CellsAt, Nat.reduceAdd, Nat.zero_add, List.mem_cons, List.not_mem_nil, or_false, forall_eq_or_imp, forall_eq, ne_eq, false_imp_iff, implies_true, and_true] at hF); ((have ⟨g0, g1, g2, g3, g4, g5⟩ := noteAt (HA.out.below hO.base) HZ.out; simp only [Nat.one_mul] at g0 g1 g2 g3 g4 g5; rw [HR.out] at g0)); refine Out.same ?_; go_simp; all_goals with_reducible rfl)
        refine Sim.sP (i := 2) (d := some 10) (h := ?_)
        refine Sim.sP (i := 3) (d := some 11) (h := ?_)
        refine Sim.sP (i := 4) (d := some 12) (h := ?_)
        refine Sim.sP (i := 5) (d := some 13) (h := ?_)
        refine Sim.sP (i := 6) (d := some 14) (h := ?_)
        refine Sim.sO (i := 7) (d := some 15) (v := ?_) (hy := ?_) (h := ?_)
        rotate_left
        · first | refine Or.inl ⟨by rfl, fun w hO => ?_⟩ | (refine Or.inr ⟨by rfl, ?_⟩; with_reducible rfl)
          first | done | (have hF := hO; (try simp only [Own, Item.Holds, apartI, CellsAt, Nat.reduceAdd, Nat.zero_add, List.mem_cons, List.not_mem_nil, or_false, forall_eq_or_imp, forall_eq, ne_eq, false_imp_iff, implies_true, and_true] at hF); ((have ⟨g0, g1, g2, g3, g4, g5⟩ := noteAt (HA.out.below hO.base) HZ.out; simp only [Nat.one_mul] at g0 g1 g2 g3 g4 g5; rw [HR.out] at g0)); refine Out.same ?_; go_simp; all_goals with_reducible rfl)
        refine Sim.sP (i := 8) (d := some 16) (h := ?_)
        refine Sim.sP (i := 9) (d := some 17) (h := ?_)
        refine Sim.sP (i := 10) (d := some 18) (h := ?_)
        refine Sim.sP (i := 11) (d := some 19) (h := ?_)
        refine Sim.sP (i := 12) (d := some 20) (h := ?_)
        refine Sim.sP (i := 13) (d := some 21) (h := ?_)
        refine Sim.sO (i := 14) (d := some 22) (v := ?_) (hy := ?_) (h := ?_)
        rotate_left
        · first | refine Or.inl ⟨by rfl, fun w hO => ?_⟩ | (refine Or.inr ⟨by rfl, ?_⟩; with_reducible rfl)
          first | done | (have hF := hO; (try simp only [Own, Item.Holds, apartI, CellsAt, Nat.reduceAdd, Nat.zero_add, List.mem_cons, List.not_mem_nil, or_false, forall_eq_or_imp, forall_eq, ne_eq, false_imp_iff, implies_true, and_true] at hF); ((have ⟨g0, g1, g2, g3, g4, g5⟩ := noteAt (HA.out.below hO.base) HZ.out; simp only [Nat.one_mul] at g0 g1 g2 g3 g4 g5; rw [HR.out] at g0)); refine Out.same ?_; go_simp; all_goals with_reducible rfl)
        refine Sim.sP (i := 15) (d := some 23) (h := ?_)
        refine Sim.sP (i := 16) (d := some 24) (h := ?_)
        refine Sim.sP (i := 17) (d := some 25) (h := ?_)
        refine Sim.sO (i := 18) (d := some 26) (v := ?_) (hy := ?_) (h := ?_)
        rotate_left
        · first | refine Or.inl ⟨by rfl, fun w hO => ?_⟩ | (refine Or.inr ⟨by rfl, ?_⟩; with_reducible rfl)
          first | done | (have hF := hO; (try simp only [Own, Item.Holds, apartI, CellsAt, Nat.reduceAdd, Nat.zero_add, List.mem_cons, List.not_mem_nil, or_false, forall_eq_or_imp, forall_eq, ne_eq, false_imp_iff, implies_true, and_true] at hF); ((have ⟨g0, g1, g2, g3, g4, g5⟩ := noteAt (HA.out.below hO.base) HZ.out; simp only [Nat.one_mul] at g0 g1 g2 g3 g4 g5; rw [HR.out] at g0)); refine Out.same ?_; go_simp; all_goals with_reducible rfl)
        refine Sim.sP (i := 19) (d := some 27) (h := ?_)
        refine Sim.sP (i := 20) (d := some 28) (h := ?_)
        refine Sim.sP (i := 21) (d := some 2) (h := ?_)
        refine Sim.done (by kernel_rfl) (fun w1 hO hX => ?_) _
        (try simp only [World.size_alloc1, World.size_drew, Nat.reduceAdd] at hO); (try simp only [upd, updI, List.map_cons, List.map_nil, eq_self, if_true, if_false, reduceIte, Nat.add_eq_left, Nat.left_eq_add, Nat.reduceEqDiff, List.set_cons_zero, List.set_cons_succ] at hO)
        have hF := hO; (try simp only [Own, Item.Holds, apartI, CellsAt, Nat.reduceAdd, Nat.zero_add, List.mem_cons, List.not_mem_nil, or_false, forall_eq_or_imp, forall_eq, ne_eq, false_imp_iff, implies_true, and_true] at hF)
        go_wp2
        go_ret
        exact ⟨ret_bool HE.out.symm, hO.base⟩

/- Chapter 5 in the program: valid voices. -/
open Go.RowKit

theorem ld_no {x : Nt} {l : List Nt} (h : ldB (x :: l) = false) : tieB (x :: l) = false := by rw [tie_ld, h]; simp
theorem ld_yes {x : Nt} {l : List Nt} (h1 : nvB x = true) (h : ldB (x :: l) = true) : tieB (x :: l) = tieB l := by rw [tie_ld, h1, h]; simp

set_option maxHeartbeats 4000000 in
theorem voI_any (va : Value) (v : List Nt) (w : World) (ha : SlAt w va v.length 6 (vcC v)) (hn : v.length ≤ 1048576) :
    Calls Tryd.prog 25 #[va] w fun e w' => e = .returned (.bool (voB v)) ∧ Below w.heap.size w w' := by
  have hO := Own.start w
  have hF := True.intro
  obtain ⟨A, c, rfl, nb, hA⟩ := ha.open
  have HA := hid ha
  clear ha
  obtain ⟨n, hnl⟩ : ∃ n, v.length = n := ⟨_, rfl⟩
  have HN := hid hnl
  rw [hnl] at hn nb hA HA
  rw [hnl]
  clear hnl
  by_cases h60 : 60 < n
  · have h60' : (60 : Int) < n := by omega
    have HE := hid (show voB v = false by
      cases hv : voB v with
      | false => rfl
      | true => have := (voB_iff.1 hv).2; have := HN.out; omega)
    go_enter Tryd.func25, Tryd.ntmps25
    go_wp2
    go_ret
    exact ⟨ret_bool HE.out.symm, hO.base⟩
  have h60' : (n : Int) ≤ 60 := by omega
  go_enter Tryd.func25, Tryd.ntmps25
  go_wp2
  go_loopw [10] (fun t wr => ∃ j : Nat, j ≤ n ∧ t = .int .i64 j ∧ Hid (tieB v = tieB (v.drop j)) ∧ Own w.heap.size (Below w.heap.size w) wr []) (fun t _ => n - (intOf t).toNat)
  case atStart => exact ⟨0, by omega, rfl, rfl, hO⟩
  case round =>
    clear hO
    obtain ⟨j, hj, rfl, HT, hO⟩ := hrel
    by_cases he : j = n
    · subst he
      have HE := hid (show voB v = true from voB_iff.2 ⟨by rw [HT.out, ← HN.out, List.drop_length]; rfl, by have := HN.out; omega⟩)
      go_wp2
      go_ret
      exact ⟨ret_bool HE.out.symm, hO.base⟩
    · have hlt : j < n := by omega
      have hlt2 : (j : Int) < n := by omega
      have j0 : (0 : Int) ≤ (j : Int) := by omega
      have j1 : (0 : Int) ≤ (j : Int) + 1 := by omega
      obtain ⟨b, off, rfl, hc1, hc2, hb⟩ := hA (by omega)
      have hjv : j < v.length := by have := HN.out; omega
      obtain ⟨x, hx⟩ : ∃ x, v[j]? = some x := ⟨_, List.getElem?_eq_getElem hjv⟩
      have hd : v.drop j = x :: v.drop (j + 1) := by
        rw [List.drop_eq_getElem_cons hjv]; congr 1
        rw [List.getElem?_eq_getElem hjv] at hx; exact Option.some.inj hx
      have HD := hid hd
      obtain ⟨d0, d1, d2, d3, d4, d5⟩ := noteAt (HA.out.below hO.base) hx
      have hF := True.intro
      cases hnv : nvB x
      · have HE := hid (show voB v = false by unfold voB; rw [HT.out, HD.out, tie_no1 hnv]; rfl)
        have HV := hid (fun W => nvI_any x W)
        rw [hnv] at HV
        clear he hx hd hjv hnv
        go_wp2_with (go_at_call 62; apply own_at hO; (repeat (first | (with_reducible exact hO) | (with_reducible apply Own.alloc) | (with_reducible apply Own.drew) | ((with_reducible apply Own.set_at); (focus (show _ ≤ _; omega))))); have hG := hF; clear hF; clear hO; intro hO; refine own_call hO (fun hB => HV.out _) ?_; clear hO; intro w1 hO; (try simp only [World.size_alloc1, World.size_drew, Nat.reduceAdd] at hO); (try simp only [upd, updI, List.map_cons, List.map_nil, eq_self, if_true, if_false, reduceIte, Nat.add_eq_left, Nat.left_eq_add, Nat.reduceEqDiff, List.set_cons_zero, List.set_cons_succ, hG] at hO); clear hG; have hF := hO; (try simp only [Own, Item.Holds, apartI, CellsAt, Nat.reduceAdd, Nat.zero_add, List.mem_cons, List.not_mem_nil, or_false, forall_eq_or_imp, forall_eq, ne_eq, false_imp_iff, implies_true, and_true] at hF))
        go_ret
        exact ⟨ret_bool HE.out.symm, Own.base (by (repeat (first | (with_reducible exact hO) | (with_reducible apply Own.alloc) | (with_reducible apply Own.drew) | ((with_reducible apply Own.set_at); (focus (show _ ≤ _; omega))))))⟩
      · have HV := hid (fun W => nvI_any x W)
        rw [hnv] at HV
        obtain ⟨g, hg⟩ : ∃ g, ldB (x :: v.drop (j + 1)) = g := ⟨_, rfl⟩
        have HL := hid (fun W (hW : Below w.heap.size w W) => show Calls Tryd.prog 63 #[.slice (some ⟨b, off + j * 6, none⟩) (n - j) (c - j)] W fun e w' => e = .returned (.bool g) ∧ Below W.heap.size W w' from by
          have hs := slAt_drop (HA.out.below hW) (m := j) (by omega)
          rw [hd] at hs
          have := ldI_any _ x (v.drop (j + 1)) (n - j) W (by rw [← hd, List.length_drop]; have := HN.out; omega) hs (by omega)
          rwa [hg] at this)
        have q5 : (j : Int) ≤ n := by omega
        have q6 : (j : Int) ≤ c := by omega
        have q7 : ¬ c = j := by omega
        have HG := hid hg
        have HNV := hid hnv
        clear he hx hd hjv hnv hg nb hn
        cases g
        · have HE := hid (show voB v = false by unfold voB; rw [HT.out, HD.out, ld_no HG.out]; rfl)
          go_wp2_with (first | (go_at_call 62; apply own_at hO; (repeat (first | (with_reducible exact hO) | (with_reducible apply Own.alloc) | (with_reducible apply Own.drew) | ((with_reducible apply Own.set_at); (focus (show _ ≤ _; omega))))); have hG := hF; clear hF; clear hO; intro hO; refine own_call hO (fun hB => HV.out _) ?_; clear hO; intro w1 hO; (try simp only [World.size_alloc1, World.size_drew, Nat.reduceAdd] at hO); (try simp only [upd, updI, List.map_cons, List.map_nil, eq_self, if_true, if_false, reduceIte, Nat.add_eq_left, Nat.left_eq_add, Nat.reduceEqDiff, List.set_cons_zero, List.set_cons_succ, hG] at hO); clear hG; have hF := hO; (try simp only [Own, Item.Holds, apartI, CellsAt, Nat.reduceAdd, Nat.zero_add, List.mem_cons, List.not_mem_nil, or_false, forall_eq_or_imp, forall_eq, ne_eq, false_imp_iff, implies_true, and_true] at hF)) | (go_at_call 63; apply own_at hO; (repeat (first | (with_reducible exact hO) | (with_reducible apply Own.alloc) | (with_reducible apply Own.drew) | ((with_reducible apply Own.set_at); (focus (show _ ≤ _; omega))))); have hG := hF; clear hF; clear hO; intro hO; refine own_call hO (fun hB => HL.out _ hB) ?_; clear hO; intro w1 hO; (try simp only [World.size_alloc1, World.size_drew, Nat.reduceAdd] at hO); (try simp only [upd, updI, List.map_cons, List.map_nil, eq_self, if_true, if_false, reduceIte, Nat.add_eq_left, Nat.left_eq_add, Nat.reduceEqDiff, List.set_cons_zero, List.set_cons_succ, hG] at hO); clear hG; have hF := hO; (try simp only [Own, Item.Holds, apartI, CellsAt, Nat.reduceAdd, Nat.zero_add, List.mem_cons, List.not_mem_nil, or_false, forall_eq_or_imp, forall_eq, ne_eq, false_imp_iff, implies_true, and_true] at hF)))
          go_ret
          exact ⟨ret_bool HE.out.symm, Own.base (by (repeat (first | (with_reducible exact hO) | (with_reducible apply Own.alloc) | (with_reducible apply Own.drew) | ((with_reducible apply Own.set_at); (focus (show _ ≤ _; omega))))))⟩
        · have HE := hid (show tieB v = tieB (v.drop (j + 1)) by rw [HT.out, HD.out, ld_yes HNV.out HG.out])
          go_wp2_with (first | (go_at_call 62; apply own_at hO; (repeat (first | (with_reducible exact hO) | (with_reducible apply Own.alloc) | (with_reducible apply Own.drew) | ((with_reducible apply Own.set_at); (focus (show _ ≤ _; omega))))); have hG := hF; clear hF; clear hO; intro hO; refine own_call hO (fun hB => HV.out _) ?_; clear hO; intro w1 hO; (try simp only [World.size_alloc1, World.size_drew, Nat.reduceAdd] at hO); (try simp only [upd, updI, List.map_cons, List.map_nil, eq_self, if_true, if_false, reduceIte, Nat.add_eq_left, Nat.left_eq_add, Nat.reduceEqDiff, List.set_cons_zero, List.set_cons_succ, hG] at hO); clear hG; have hF := hO; (try simp only [Own, Item.Holds, apartI, CellsAt, Nat.reduceAdd, Nat.zero_add, List.mem_cons, List.not_mem_nil, or_false, forall_eq_or_imp, forall_eq, ne_eq, false_imp_iff, implies_true, and_true] at hF)) | (go_at_call 63; apply own_at hO; (repeat (first | (with_reducible exact hO) | (with_reducible apply Own.alloc) | (with_reducible apply Own.drew) | ((with_reducible apply Own.set_at); (focus (show _ ≤ _; omega))))); have hG := hF; clear hF; clear hO; intro hO; refine own_call hO (fun hB => HL.out _ hB) ?_; clear hO; intro w1 hO; (try simp only [World.size_alloc1, World.size_drew, Nat.reduceAdd] at hO); (try simp only [upd, updI, List.map_cons, List.map_nil, eq_self, if_true, if_false, reduceIte, Nat.add_eq_left, Nat.left_eq_add, Nat.reduceEqDiff, List.set_cons_zero, List.set_cons_succ, hG] at hO); clear hG; have hF := hO; (try simp only [Own, Item.Holds, apartI, CellsAt, Nat.reduceAdd, Nat.zero_add, List.mem_cons, List.not_mem_nil, or_false, forall_eq_or_imp, forall_eq, ne_eq, false_imp_iff, implies_true, and_true] at hF)))
          go_roundw
          case rel => exact ⟨j + 1, by omega, by go_num, HE.out, Own.drop (by (repeat (first | (with_reducible exact hO) | (with_reducible apply Own.alloc) | (with_reducible apply Own.drew) | ((with_reducible apply Own.set_at); (focus (show _ ≤ _; omega))))))⟩
          case measure => simp [intOf]; omega

theorem voI_C (w : World) : CBool 25 voB w := fun va v W _ hs hn => voI_any va v W hs hn
theorem voI_is {va : Value} {v : List Nt} {w : World} {n : Nat} {b : Bool} (hn : v.length = n) (ha : SlAt w va n 6 (vcC v)) (hl : n ≤ 1048576) (h : voB v = b) (W : World) (hW : Below w.heap.size w W) :
    Calls Tryd.prog 25 #[va] W fun e w' => e = .returned (.bool b) ∧ Below W.heap.size W w' := by
  subst hn h
  exact voI_any va v W (ha.below hW) hl
end Go.Proofs.YtcgcnkddgihkpaaDoor
