/- The functions that draw for a law of chapter 3. -/
import Derived.Test.YtllcokbnjlodbaaDoorWalksWay
import Derived.Test.YtllcokbnjlodbaaDoorWalksDrawP
namespace Go.Proofs.YtllcokbnjlodbaaDoor
set_option linter.unusedSimpArgs false
set_option linter.unusedVariables false
open Go.RowKit

/-- What drawing a key leaves. -/
def DrewF (r : Nat) (P : Int) (w : World) (e : Ending) (w' : World) : Prop :=
  ∃ f : Int, (-8 ≤ f ∧ f ≤ 8) ∧ e = .returned (.int .i64 f) ∧ Rd w' r (P + 4) ∧ ButR r w w'
theorem sel_bd (x : Int) : -8 ≤ sel x (-8) 8 ∧ sel x (-8) 8 ≤ 8 := by unfold sel; split <;> omega
theorem tri_bd8 {x a b c : Int} (ha : -8 ≤ a ∧ a ≤ 8) (hb : -8 ≤ b ∧ b ≤ 8) (hc : -8 ≤ c ∧ c ≤ 8) : -8 ≤ tri x a b c ∧ tri x a b c ≤ 8 := by unfold tri; (repeat' split) <;> omega

set_option maxHeartbeats 4000000 in
theorem l20Fifths_any (r : Nat) (P n : Int) (w : World) (h : Rd w r P) (hP : P ≤ 900000) (n0 : 0 ≤ n) (n1 : n ≤ 1000000) :
    Calls Tryd.prog 53 #[.pointer (some ⟨r, 0, none⟩), .int .i64 n] w (DrewF r P w) := by
  have hr0 := h.lt
  go_enter Tryd.func53, Tryd.ntmps53
  go_wp2_with fail
  refine (odd_any r P n _ h (by omega) (by omega) (by omega)).mono ?_
  rintro e w1 ⟨bo, rfl, hr1, hb1⟩
  clear h
  cases bo
  · go_wp2_with fail
    refine (pick_any r (P + 1) 15 _ hr1 (by omega) (by omega) (by omega)).mono ?_
    rintro e w2 ⟨x, x0, x1, rfl, hr2, hb2⟩
    have m1 : IntKind.i64.wrap (x - 7) = x - 7 := IntWalk.i64_in _ (by omega)
    go_wp2_with fail
    refine (pick_any r (P + 1 + 1) 5 _ hr2 (by omega) (by omega) (by omega)).mono ?_
    rintro e w3 ⟨y, y0, y1, rfl, hr3, hb3⟩
    have m2 : IntKind.i64.wrap (y - 2) = y - 2 := IntWalk.i64_in _ (by omega)
    go_wp2_with fail
    refine (pick_any r (P + 1 + 1 + 1) 3 _ (hr3.below (below1 _)) (by omega) (by omega) (by omega)).mono ?_
    rintro e w4 ⟨z, z0, z1, rfl, hr4, hb4⟩
    have hp := tri_at hb4 hr3.lt z0 z1
    have hB := ((hb1.trans hb2).trans hb3).trans (((ButR.refl _ _).alloc _).trans hb4)
    have hR := hr4.mono (show P + 1 + 1 + 1 + 1 ≤ P + 4 by omega)
    have hv := tri_bd8 (x := z) (a := x - 7) (b := 0) (c := y - 2) (by omega) (by omega) (by omega)
    clear hr1 hb1 hr2 hb2 hr3 hb3 hr4 hb4
    go_wp2
    go_ret
    exact ⟨_, hv, rfl, hR, hB⟩
  · go_wp2_with fail
    refine (pick_any r (P + 1) 2 _ (hr1.below (below1 _)) (by omega) (by omega) (by omega)).mono ?_
    rintro e w2 ⟨x, x0, x1, rfl, hr2, hb2⟩
    have hp := pair_at hb2 hr1.lt x0 x1
    have hB := hb1.trans (((ButR.refl _ _).alloc _).trans hb2)
    have hR := hr2.mono (show P + 1 + 1 ≤ P + 4 by omega)
    have hv := sel_bd x
    clear hr1 hb1 hr2 hb2
    go_wp2
    go_ret
    exact ⟨_, hv, rfl, hR, hB⟩

/-- A key and minor are drawn. -/
def DrewFB (w : World) (e : Ending) (w' : World) : Prop := ∃ (f : Int) (m : Bool), (-8 ≤ f ∧ f ≤ 8) ∧ e = .returned (.tuple #[.int .i64 f, .bool m]) ∧ Below w.heap.size w w'
/-- Two numbers are drawn. -/
def DrewFI (w : World) (e : Ending) (w' : World) : Prop := ∃ f s : Int, (-8 ≤ f ∧ f ≤ 8) ∧ (-1 ≤ s ∧ s ≤ 7) ∧ e = .returned (.tuple #[.int .i64 f, .int .i64 s]) ∧ Below w.heap.size w w'
/-- A key and a pitch are drawn. -/
def DrewFP (w : World) (e : Ending) (w' : World) : Prop :=
  ∃ f s a o : Int, (-8 ≤ f ∧ f ≤ 8) ∧ ((-1 ≤ s ∧ s ≤ 7) ∧ (-3 ≤ a ∧ a ≤ 3) ∧ (-1 ≤ o ∧ o ≤ 9)) ∧ e = .returned (.tuple #[.int .i64 f, .agg #[.int .i64 s, .int .i64 a, .int .i64 o]]) ∧ Below w.heap.size w w'
/-- A pitch and minor are drawn. -/
def DrewPB (w : World) (e : Ending) (w' : World) : Prop :=
  ∃ (s a o : Int) (m : Bool), ((-1 ≤ s ∧ s ≤ 7) ∧ (-3 ≤ a ∧ a ≤ 3) ∧ (-1 ≤ o ∧ o ≤ 9)) ∧ e = .returned (.tuple #[.agg #[.int .i64 s, .int .i64 a, .int .i64 o], .bool m]) ∧ Below w.heap.size w w'
/-- A key, minor and a pitch are drawn. -/
def DrewFBP (w : World) (e : Ending) (w' : World) : Prop :=
  ∃ (f : Int) (m : Bool) (s a o : Int), (-8 ≤ f ∧ f ≤ 8) ∧ ((-1 ≤ s ∧ s ≤ 7) ∧ (-3 ≤ a ∧ a ≤ 3) ∧ (-1 ≤ o ∧ o ≤ 9)) ∧ e = .returned (.tuple #[.int .i64 f, .bool m, .agg #[.int .i64 s, .int .i64 a, .int .i64 o]]) ∧ Below w.heap.size w w'

set_option maxHeartbeats 1000000 in
theorem DrawKeyTonic_any (v : Value) (n : Nat) (w : World) (hn : n ≤ maxLen) (h : BytesB w w.heap.size v n) :
    Calls Tryd.prog 32 #[v] w (DrewFB w) := by
  go_enter Tryd.func32, Tryd.ntmps32
  go_wp2_with fail
  refine (open_any v n _ hn h).mono ?_
  rintro e w1 ⟨r, hr, rfl, hR, hb⟩
  go_wp2_with fail
  refine (l20Fifths_any r 0 _ _ hR (by omega) (by omega) (by omega)).mono ?_
  rintro e w2 ⟨f, hf, rfl, hR2, hB2⟩
  have hb2 := hB2.below hb hr
  go_wp2_with fail
  refine (pick_any r (0 + 4) 2 _ hR2 (by omega) (by omega) (by omega)).mono ?_
  rintro e w3 ⟨x, x0, x1, rfl, hR3, hB3⟩
  have hb3 := hB3.below hb2 hr
  clear hR hR2 hR3 hB2 hB3 hb hb2
  go_wp2
  go_ret2
  exact ⟨f, _, hf, rfl, hb3⟩

set_option maxHeartbeats 1000000 in
theorem DrawKeyScale_any (v : Value) (n : Nat) (w : World) (hn : n ≤ maxLen) (h : BytesB w w.heap.size v n) :
    Calls Tryd.prog 34 #[v] w (DrewFB w) := by
  go_enter Tryd.func34, Tryd.ntmps34
  go_wp2_with fail
  refine (open_any v n _ hn h).mono ?_
  rintro e w1 ⟨r, hr, rfl, hR, hb⟩
  go_wp2_with fail
  refine (l20Fifths_any r 0 _ _ hR (by omega) (by omega) (by omega)).mono ?_
  rintro e w2 ⟨f, hf, rfl, hR2, hB2⟩
  have hb2 := hB2.below hb hr
  go_wp2_with fail
  refine (pick_any r (0 + 4) 2 _ hR2 (by omega) (by omega) (by omega)).mono ?_
  rintro e w3 ⟨x, x0, x1, rfl, hR3, hB3⟩
  have hb3 := hB3.below hb2 hr
  clear hR hR2 hR3 hB2 hB3 hb hb2
  go_wp2
  go_ret2
  exact ⟨f, _, hf, rfl, hb3⟩

set_option maxHeartbeats 1000000 in
theorem DrawInKey_any (v : Value) (n : Nat) (w : World) (hn : n ≤ maxLen) (h : BytesB w w.heap.size v n) :
    Calls Tryd.prog 38 #[v] w (DrewFP w) := by
  have hO := Own.start w
  have hF := True.intro
  go_enter Tryd.func38, Tryd.ntmps38
  go_wp2_with fail
  apply own_at hO
  (repeat (first | (with_reducible exact hO) | (with_reducible apply Own.alloc) | (with_reducible apply Own.drew) | ((with_reducible apply Own.set_at); (focus (show _ ≤ _; omega)))))
  intro hO1
  refine (open_any v n _ hn (h.alloc _)).mono ?_
  rintro e w1 ⟨r, hr, rfl, hR, hb⟩
  have hne := hO1.ne_of hr
  have hr0 := Nat.le_trans hO1.low hr
  replace hO := hO1.below hb
  clear hO1 hb h hn
  go_wp2_with fail
  refine (l20Fifths_any r 0 _ _ hR (by omega) (by omega) (by omega)).mono ?_
  rintro e w2 ⟨f, hf, rfl, hR2, hB2⟩
  replace hO := hO.drawn hB2 hr0 hne
  clear hR hB2
  go_wp2_with fail
  refine (l20Pitch_any r _ _ _ hR2 (by omega) (by omega) (by omega)).mono ?_
  rintro e w3 ⟨s, a, o, hs, ha, ho, rfl, hR3, hB3⟩
  replace hO := hO.drawn hB3 hr0 hne
  clear hR2 hR3 hB3 hne
  have hG := hF
  (try simp only [World.size_alloc1, World.size_drew, Nat.reduceAdd] at hO); (try simp only [upd, updI, List.map_cons, List.map_nil, eq_self, if_true, if_false, reduceIte, Nat.add_eq_left, Nat.left_eq_add, Nat.reduceEqDiff, List.set_cons_zero, List.set_cons_succ, hG] at hO); clear hG
  clear hF
  have hF := hO; (try simp only [Own, Item.Holds, apartI, CellsAt, Nat.reduceAdd, Nat.zero_add, List.mem_cons, List.not_mem_nil, or_false, forall_eq_or_imp, forall_eq, ne_eq, false_imp_iff, implies_true, and_true] at hF)
  go_wp2
  apply own_end hO
  (repeat (first | (with_reducible exact hO) | (with_reducible apply Own.alloc) | (with_reducible apply Own.drew) | ((with_reducible apply Own.set_at); (focus (show _ ≤ _; omega)))))
  have hG := hF; clear hF; clear hO; intro hO
  refine own_ret (v := .tuple #[.int .i64 f, .agg #[.int .i64 s, .int .i64 a, .int .i64 o]]) hO ?_ rfl (fun hO => ⟨f, s, a, o, hf, ⟨hs, ha, ho⟩, rfl, hO.base⟩)
  clear hO; intro w1 hO
  (try simp only [World.size_alloc1, World.size_drew, Nat.reduceAdd] at hO); (try simp only [upd, updI, List.map_cons, List.map_nil, eq_self, if_true, if_false, reduceIte, Nat.add_eq_left, Nat.left_eq_add, Nat.reduceEqDiff, List.set_cons_zero, List.set_cons_succ, hG] at hO); clear hG
  have hF := hO; (try simp only [Own, Item.Holds, apartI, CellsAt, Nat.reduceAdd, Nat.zero_add, List.mem_cons, List.not_mem_nil, or_false, forall_eq_or_imp, forall_eq, ne_eq, false_imp_iff, implies_true, and_true] at hF)
  simp [results, Tryd.results38, go_sem, hF]

set_option maxHeartbeats 1000000 in
theorem DrawKeyOf_any (v : Value) (n : Nat) (w : World) (hn : n ≤ maxLen) (h : BytesB w w.heap.size v n) :
    Calls Tryd.prog 40 #[v] w (DrewPB w) := by
  have hO := Own.start w
  have hF := True.intro
  go_enter Tryd.func40, Tryd.ntmps40
  go_wp2_with fail
  apply own_at hO
  (repeat (first | (with_reducible exact hO) | (with_reducible apply Own.alloc) | (with_reducible apply Own.drew) | ((with_reducible apply Own.set_at); (focus (show _ ≤ _; omega)))))
  intro hO1
  refine (open_any v n _ hn (h.alloc _)).mono ?_
  rintro e w1 ⟨r, hr, rfl, hR, hb⟩
  have hne := hO1.ne_of hr
  have hr0 := Nat.le_trans hO1.low hr
  replace hO := hO1.below hb
  clear hO1 hb h hn
  go_wp2_with fail
  refine (l20Pitch_any r 0 _ _ hR (by omega) (by omega) (by omega)).mono ?_
  rintro e w2 ⟨s, a, o, hs, ha, ho, rfl, hR2, hB2⟩
  replace hO := hO.drawn hB2 hr0 hne
  clear hR hB2
  go_wp2_with fail
  refine (pick_any r _ 2 _ hR2 (by omega) (by omega) (by omega)).mono ?_
  rintro e w3 ⟨x, x0, x1, rfl, hR3, hB3⟩
  replace hO := hO.drawn hB3 hr0 hne
  clear hR2 hR3 hB3 hne
  have hG := hF
  (try simp only [World.size_alloc1, World.size_drew, Nat.reduceAdd] at hO); (try simp only [upd, updI, List.map_cons, List.map_nil, eq_self, if_true, if_false, reduceIte, Nat.add_eq_left, Nat.left_eq_add, Nat.reduceEqDiff, List.set_cons_zero, List.set_cons_succ, hG] at hO); clear hG
  clear hF
  have hF := hO; (try simp only [Own, Item.Holds, apartI, CellsAt, Nat.reduceAdd, Nat.zero_add, List.mem_cons, List.not_mem_nil, or_false, forall_eq_or_imp, forall_eq, ne_eq, false_imp_iff, implies_true, and_true] at hF)
  obtain ⟨m, hm⟩ : ∃ m, (x == 0) = m := ⟨_, rfl⟩
  go_wp2
  apply own_end hO
  (repeat (first | (with_reducible exact hO) | (with_reducible apply Own.alloc) | (with_reducible apply Own.drew) | ((with_reducible apply Own.set_at); (focus (show _ ≤ _; omega)))))
  have hG := hF; clear hF; clear hO; intro hO
  refine own_ret (v := .tuple #[.agg #[.int .i64 s, .int .i64 a, .int .i64 o], .bool m]) hO ?_ rfl (fun hO => ⟨s, a, o, m, ⟨hs, ha, ho⟩, rfl, hO.base⟩)
  clear hO; intro w1 hO
  (try simp only [World.size_alloc1, World.size_drew, Nat.reduceAdd] at hO); (try simp only [upd, updI, List.map_cons, List.map_nil, eq_self, if_true, if_false, reduceIte, Nat.add_eq_left, Nat.left_eq_add, Nat.reduceEqDiff, List.set_cons_zero, List.set_cons_succ, hG] at hO); clear hG
  have hF := hO; (try simp only [Own, Item.Holds, apartI, CellsAt, Nat.reduceAdd, Nat.zero_add, List.mem_cons, List.not_mem_nil, or_false, forall_eq_or_imp, forall_eq, ne_eq, false_imp_iff, implies_true, and_true] at hF)
  simp [results, Tryd.results40, go_sem, hF]

set_option maxHeartbeats 1000000 in
theorem DrawDegreeOf_any (v : Value) (n : Nat) (w : World) (hn : n ≤ maxLen) (h : BytesB w w.heap.size v n) :
    Calls Tryd.prog 41 #[v] w (DrewFBP w) := by
  have hO := Own.start w
  have hF := True.intro
  go_enter Tryd.func41, Tryd.ntmps41
  go_wp2_with fail
  apply own_at hO
  (repeat (first | (with_reducible exact hO) | (with_reducible apply Own.alloc) | (with_reducible apply Own.drew) | ((with_reducible apply Own.set_at); (focus (show _ ≤ _; omega)))))
  intro hO1
  refine (open_any v n _ hn (h.alloc _)).mono ?_
  rintro e w1 ⟨r, hr, rfl, hR, hb⟩
  have hne := hO1.ne_of hr
  have hr0 := Nat.le_trans hO1.low hr
  replace hO := hO1.below hb
  clear hO1 hb h hn
  go_wp2_with fail
  refine (l20Fifths_any r 0 _ _ hR (by omega) (by omega) (by omega)).mono ?_
  rintro e w2 ⟨f, hf, rfl, hR2, hB2⟩
  replace hO := hO.drawn hB2 hr0 hne
  clear hR hB2
  go_wp2_with fail
  refine (pick_any r _ 2 _ hR2 (by omega) (by omega) (by omega)).mono ?_
  rintro e w3 ⟨x, x0, x1, rfl, hR3, hB3⟩
  replace hO := hO.drawn hB3 hr0 hne
  clear hR2 hB3
  go_wp2_with fail
  refine (l20Pitch_any r _ _ _ hR3 (by omega) (by omega) (by omega)).mono ?_
  rintro e w4 ⟨s, a, o, hs, ha, ho, rfl, hR4, hB4⟩
  replace hO := hO.drawn hB4 hr0 hne
  clear hR3 hR4 hB4 hne
  have hG := hF
  (try simp only [World.size_alloc1, World.size_drew, Nat.reduceAdd] at hO); (try simp only [upd, updI, List.map_cons, List.map_nil, eq_self, if_true, if_false, reduceIte, Nat.add_eq_left, Nat.left_eq_add, Nat.reduceEqDiff, List.set_cons_zero, List.set_cons_succ, hG] at hO); clear hG
  clear hF
  have hF := hO; (try simp only [Own, Item.Holds, apartI, CellsAt, Nat.reduceAdd, Nat.zero_add, List.mem_cons, List.not_mem_nil, or_false, forall_eq_or_imp, forall_eq, ne_eq, false_imp_iff, implies_true, and_true] at hF)
  obtain ⟨m, hm⟩ : ∃ m, (x == 0) = m := ⟨_, rfl⟩
  go_wp2
  apply own_end hO
  (repeat (first | (with_reducible exact hO) | (with_reducible apply Own.alloc) | (with_reducible apply Own.drew) | ((with_reducible apply Own.set_at); (focus (show _ ≤ _; omega)))))
  have hG := hF; clear hF; clear hO; intro hO
  refine own_ret (v := .tuple #[.int .i64 f, .bool m, .agg #[.int .i64 s, .int .i64 a, .int .i64 o]]) hO ?_ rfl (fun hO => ⟨f, m, s, a, o, hf, ⟨hs, ha, ho⟩, rfl, hO.base⟩)
  clear hO; intro w1 hO
  (try simp only [World.size_alloc1, World.size_drew, Nat.reduceAdd] at hO); (try simp only [upd, updI, List.map_cons, List.map_nil, eq_self, if_true, if_false, reduceIte, Nat.add_eq_left, Nat.left_eq_add, Nat.reduceEqDiff, List.set_cons_zero, List.set_cons_succ, hG] at hO); clear hG
  have hF := hO; (try simp only [Own, Item.Holds, apartI, CellsAt, Nat.reduceAdd, Nat.zero_add, List.mem_cons, List.not_mem_nil, or_false, forall_eq_or_imp, forall_eq, ne_eq, false_imp_iff, implies_true, and_true] at hF)
  simp [results, Tryd.results41, go_sem, hF]
end Go.Proofs.YtllcokbnjlodbaaDoor
