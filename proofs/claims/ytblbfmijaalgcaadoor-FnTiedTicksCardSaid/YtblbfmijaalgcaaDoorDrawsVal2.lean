/- The functions that draw for a law of chapter 4: values; numbers of ticks. -/
import Derived.Test.YtblbfmijaalgcaaDoorDrawsVal
import Derived.Test.YtblbfmijaalgcaaDoorWalks4S
namespace Go.Proofs.YtblbfmijaalgcaaDoor
set_option linter.unusedSimpArgs false
set_option linter.unusedVariables false
open Go.RowKit

/-- What drawing a value for a law leaves. -/
def DrewVa (w : World) (e : Ending) (w' : World) : Prop :=
  ∃ b d t : Int, (-1 ≤ b ∧ b ≤ 32) ∧ (-1 ≤ d ∧ d ≤ 32) ∧ (-1 ≤ t ∧ t ≤ 32) ∧ e = .returned (.agg #[.int .i64 b, .int .i64 d, .int .i64 t]) ∧ Below w.heap.size w w'

set_option maxHeartbeats 1000000 in
theorem DrawValueValid_any (v : Value) (n : Nat) (w : World) (hn : n ≤ maxLen) (h : BytesB w w.heap.size v n) :
    Calls Tryd.prog 12 #[v] w (DrewVa w) := by
  have hO := Own.start w
  have hF := True.intro
  go_enter Tryd.func12, Tryd.ntmps12
  go_wp2_with fail
  apply own_at hO
  (repeat (first | (with_reducible exact hO) | (with_reducible apply Own.alloc) | (with_reducible apply Own.drew) | ((with_reducible apply Own.set_at); (focus (show _ ≤ _; omega)))))
  intro hO1
  refine (open_any v n _ hn (h.alloc _)).mono ?_
  rintro e w1 ⟨r, hr, rfl, hR, hb⟩
  have hne := hO1.ne_of hr
  have hr0 := Nat.le_trans hO1.low hr
  replace hO := hO1.below hb
  clear hO1 hb h hn
  go_wp2_with fail
  refine (l20Value_any r 0 _ _ hR (by omega) (by omega) (by omega)).mono ?_
  rintro e w2 ⟨b, d, t, h1, h2, h3, rfl, hR2, hB2⟩
  replace hO := hO.drawn hB2 hr0 hne
  clear hR hR2 hB2 hne
  have hG := hF
  (try simp only [World.size_alloc1, World.size_drew, Nat.reduceAdd] at hO); (try simp only [upd, updI, List.map_cons, List.map_nil, eq_self, if_true, if_false, reduceIte, Nat.add_eq_left, Nat.left_eq_add, Nat.reduceEqDiff, List.set_cons_zero, List.set_cons_succ, hG] at hO); clear hG
  clear hF
  have hF := hO; (try simp only [Own, Item.Holds, apartI, CellsAt, Nat.reduceAdd, Nat.zero_add, List.mem_cons, List.not_mem_nil, or_false, forall_eq_or_imp, forall_eq, ne_eq, false_imp_iff, implies_true, and_true] at hF)
  go_wp2
  apply own_end hO
  (repeat (first | (with_reducible exact hO) | (with_reducible apply Own.alloc) | (with_reducible apply Own.drew) | ((with_reducible apply Own.set_at); (focus (show _ ≤ _; omega)))))
  have hG := hF; clear hF; clear hO; intro hO
  refine own_ret (v := .agg #[.int .i64 b, .int .i64 d, .int .i64 t]) hO ?_ rfl (fun hO => ⟨b, d, t, h1, h2, h3, rfl, hO.base⟩)
  clear hO; intro w1 hO
  (try simp only [World.size_alloc1, World.size_drew, Nat.reduceAdd] at hO); (try simp only [upd, updI, List.map_cons, List.map_nil, eq_self, if_true, if_false, reduceIte, Nat.add_eq_left, Nat.left_eq_add, Nat.reduceEqDiff, List.set_cons_zero, List.set_cons_succ, hG] at hO); clear hG
  have hF := hO; (try simp only [Own, Item.Holds, apartI, CellsAt, Nat.reduceAdd, Nat.zero_add, List.mem_cons, List.not_mem_nil, or_false, forall_eq_or_imp, forall_eq, ne_eq, false_imp_iff, implies_true, and_true] at hF)
  simp [results, Tryd.results12, go_sem, hF]

set_option maxHeartbeats 1000000 in
theorem DrawTicksOf_any (v : Value) (n : Nat) (w : World) (hn : n ≤ maxLen) (h : BytesB w w.heap.size v n) :
    Calls Tryd.prog 16 #[v] w (DrewVa w) := by
  have hO := Own.start w
  have hF := True.intro
  go_enter Tryd.func16, Tryd.ntmps16
  go_wp2_with fail
  apply own_at hO
  (repeat (first | (with_reducible exact hO) | (with_reducible apply Own.alloc) | (with_reducible apply Own.drew) | ((with_reducible apply Own.set_at); (focus (show _ ≤ _; omega)))))
  intro hO1
  refine (open_any v n _ hn (h.alloc _)).mono ?_
  rintro e w1 ⟨r, hr, rfl, hR, hb⟩
  have hne := hO1.ne_of hr
  have hr0 := Nat.le_trans hO1.low hr
  replace hO := hO1.below hb
  clear hO1 hb h hn
  go_wp2_with fail
  refine (l20Value_any r 0 _ _ hR (by omega) (by omega) (by omega)).mono ?_
  rintro e w2 ⟨b, d, t, h1, h2, h3, rfl, hR2, hB2⟩
  replace hO := hO.drawn hB2 hr0 hne
  clear hR hR2 hB2 hne
  have hG := hF
  (try simp only [World.size_alloc1, World.size_drew, Nat.reduceAdd] at hO); (try simp only [upd, updI, List.map_cons, List.map_nil, eq_self, if_true, if_false, reduceIte, Nat.add_eq_left, Nat.left_eq_add, Nat.reduceEqDiff, List.set_cons_zero, List.set_cons_succ, hG] at hO); clear hG
  clear hF
  have hF := hO; (try simp only [Own, Item.Holds, apartI, CellsAt, Nat.reduceAdd, Nat.zero_add, List.mem_cons, List.not_mem_nil, or_false, forall_eq_or_imp, forall_eq, ne_eq, false_imp_iff, implies_true, and_true] at hF)
  go_wp2
  apply own_end hO
  (repeat (first | (with_reducible exact hO) | (with_reducible apply Own.alloc) | (with_reducible apply Own.drew) | ((with_reducible apply Own.set_at); (focus (show _ ≤ _; omega)))))
  have hG := hF; clear hF; clear hO; intro hO
  refine own_ret (v := .agg #[.int .i64 b, .int .i64 d, .int .i64 t]) hO ?_ rfl (fun hO => ⟨b, d, t, h1, h2, h3, rfl, hO.base⟩)
  clear hO; intro w1 hO
  (try simp only [World.size_alloc1, World.size_drew, Nat.reduceAdd] at hO); (try simp only [upd, updI, List.map_cons, List.map_nil, eq_self, if_true, if_false, reduceIte, Nat.add_eq_left, Nat.left_eq_add, Nat.reduceEqDiff, List.set_cons_zero, List.set_cons_succ, hG] at hO); clear hG
  have hF := hO; (try simp only [Own, Item.Holds, apartI, CellsAt, Nat.reduceAdd, Nat.zero_add, List.mem_cons, List.not_mem_nil, or_false, forall_eq_or_imp, forall_eq, ne_eq, false_imp_iff, implies_true, and_true] at hF)
  simp [results, Tryd.results16, go_sem, hF]

theorem ttZ_bd (b d t : Int) : -1 ≤ ttZ b d t ∧ ttZ b d t ≤ 336 := by
  unfold ttZ
  by_cases hv : vvB b d t = true
  · rw [if_pos hv]
    obtain ⟨hb, hd, ht⟩ := vvB_iff.1 hv
    have hd' : d = 0 ∨ d = 1 ∨ d = 2 := by omega
    rcases hb with rfl | rfl | rfl | rfl | rfl <;> rcases hd' with rfl | rfl | rfl <;> rcases ht with rfl | rfl <;> decide
  · rw [if_neg hv]; omega

set_option maxHeartbeats 4000000 in
theorem DrawValueOf_any (v : Value) (n : Nat) (w : World) (hn : n ≤ maxLen) (h : BytesB w w.heap.size v n) :
    Calls Tryd.prog 19 #[v] w (DrewN w) := by
  go_enter Tryd.func19, Tryd.ntmps19
  go_wp2_with fail
  refine (open_any v n _ hn h).mono ?_
  rintro e w1 ⟨r, hr, rfl, hR, hb⟩
  go_wp2_with fail
  refine (l20Value_any r 0 0 _ hR (by omega) (by omega) (by omega)).mono ?_
  rintro e w2 ⟨b, d, t, h1, h2, h3, rfl, hR2, hB2⟩
  have hb2 := hB2.below hb hr
  go_wp2_with fail
  refine (ttS_any b d t _).mono ?_
  rintro e w3 ⟨rfl, hb3⟩
  have hR3 := hR2.below hb3
  have hb23 := btr hb2 hb3
  have tb := ttZ_bd b d t
  obtain ⟨y, hy⟩ : ∃ y, ttZ b d t = y := ⟨_, rfl⟩
  rw [hy] at tb ⊢
  clear hy
  go_wp2_with fail
  refine (pick_any r (0 + 20) 256 _ hR3 (by omega) (by omega) (by omega)).mono ?_
  rintro e w4 ⟨z, z0, z1, rfl, hR4, hB4⟩
  have hb4 := hB4.below hb23 hr
  clear hR hR2 hR3 hB2 hB4 hb hb2 hb3 hb23
  go_wp2_with fail
  have hO := (((Own.start w).below hb4).alloc (t := 3) (vs := [y, z, 0, -1].map (Value.int .i64))).alloc (t := 3) (vs := [0, 0, 0, 1, 2, 3].map (Value.int .i64))
  have hlt := hR4.lt
  simp only [World.size_alloc1] at hO
  refine (pick_any r (0 + 20 + 1) 6 _ ((hR4.below (below1 _)).below (below1 _)) (by omega) (by omega) (by omega)).mono ?_
  rintro e w5 ⟨g, g0, g1, rfl, hR5, hB5⟩
  replace hO := hO.drawn hB5 hr (by intro x hx e; simp only [List.mem_cons, List.not_mem_nil, or_false] at hx; rcases hx with rfl | rfl <;> (simp only [Item.at?, Option.some.injEq] at e; omega))
  obtain ⟨u, hu, hc1⟩ := hO.int_in (b := w4.heap.size + 1) (lo := 0) (hi := 3) (x := g) [0, 0, 0, 1, 2, 3] (by simp) g0 (by simpa using g1) (by decide)
  obtain ⟨s, hs, hc2⟩ := hO.int_in (b := w4.heap.size) (lo := -1) (hi := 1000) (x := u) [y, z, 0, -1] (by simp) hu.1 (by simp; omega) (by intro u hu; simp at hu; omega)
  have hB := hO.base
  clear hO hR4 hb4 hR5 hB5
  go_wp2
  go_ret
  exact ⟨s, hs, rfl, hB⟩
end Go.Proofs.YtblbfmijaalgcaaDoor
