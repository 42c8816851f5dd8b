/- The functions that draw for a law of chapter 2. -/
import Derived.Test.YtjfmbklgkmkgjaaDoorWalksWay
import Derived.Test.YtjfmbklgkmkgjaaDoorWalksDrawP
namespace Go.Proofs.YtjfmbklgkmkgjaaDoor
set_option linter.unusedSimpArgs false
set_option linter.unusedVariables false
set_option maxRecDepth 8000
open Go.RowKit

/-- What drawing an interval for a law leaves. -/
def DrewI (w : World) (e : Ending) (w' : World) : Prop :=
  ∃ st ha : Int, (-100 ≤ st ∧ st ≤ 100) ∧ (-9223372036854775807 ≤ ha ∧ ha ≤ 9223372036854775807) ∧ e = .returned (.agg #[.int .i64 st, .int .i64 ha]) ∧ Below w.heap.size w w'

/-- Two pitches are drawn. -/
def DrewPP (w : World) (e : Ending) (w' : World) : Prop :=
  ∃ s a o s' a' o' : Int, ((-1 ≤ s ∧ s ≤ 7) ∧ (-3 ≤ a ∧ a ≤ 3) ∧ (-1 ≤ o ∧ o ≤ 9)) ∧ ((-1 ≤ s' ∧ s' ≤ 7) ∧ (-3 ≤ a' ∧ a' ≤ 3) ∧ (-1 ≤ o' ∧ o' ≤ 9)) ∧ e = .returned (.tuple #[.agg #[.int .i64 s, .int .i64 a, .int .i64 o], .agg #[.int .i64 s', .int .i64 a', .int .i64 o']]) ∧ Below w.heap.size w w'
/-- A pitch and an interval are drawn. -/
def DrewPI (w : World) (e : Ending) (w' : World) : Prop :=
  ∃ s a o st ha : Int, ((-1 ≤ s ∧ s ≤ 7) ∧ (-3 ≤ a ∧ a ≤ 3) ∧ (-1 ≤ o ∧ o ≤ 9)) ∧ ((-100 ≤ st ∧ st ≤ 100) ∧ (-9223372036854775807 ≤ ha ∧ ha ≤ 9223372036854775807)) ∧ e = .returned (.tuple #[.agg #[.int .i64 s, .int .i64 a, .int .i64 o], .agg #[.int .i64 st, .int .i64 ha]]) ∧ Below w.heap.size w w'

set_option maxHeartbeats 1000000 in
theorem DrawAddInterval_any (v : Value) (n : Nat) (w : World) (hn : n ≤ maxLen) (h : BytesB w w.heap.size v n) :
    Calls Tryd.prog 37 #[v] w (DrewPI w) := by
  have hO := Own.start w
  have hF := True.intro
  have h' := (h.alloc (.cells #[.int .i64 0, .int .i64 0, .int .i64 0] 24)).alloc (.cells #[.int .i64 0, .int .i64 0] 51)
  go_enter Tryd.func37, Tryd.ntmps37
  go_wp2_with fail
  apply own_at hO
  (repeat (first | (with_reducible exact hO) | (with_reducible apply Own.alloc) | (with_reducible apply Own.drew) | ((with_reducible apply Own.set_at); (focus (show _ ≤ _; omega)))))
  intro hO1
  refine (open_any v n _ hn h').mono ?_
  rintro e w1 ⟨r, hr, rfl, hR, hb⟩
  have hne := hO1.ne_of hr
  have hr0 := Nat.le_trans hO1.low hr
  replace hO := hO1.below hb
  clear hO1 hb h h' hn
  go_wp2_with fail
  refine (l20Pitch_any r 0 _ _ hR (by omega) (by omega) (by omega)).mono ?_
  rintro e w2 ⟨s, a, o, hs, ha, ho, rfl, hR2, hB2⟩
  replace hO := hO.drawn hB2 hr0 hne
  clear hR hB2
  go_wp2_with fail
  refine (l20Way_any r _ _ _ hR2 (by omega) (by omega) (by omega)).mono ?_
  rintro e w3 ⟨st, ha', h1, h2, rfl, hR3, hB3⟩
  replace hO := hO.drawn hB3 hr0 hne
  clear hR2 hR3 hB3 hne
  have hG := hF
  (try simp only [World.size_alloc1, World.size_drew, Nat.reduceAdd] at hO); (try simp only [upd, updI, List.map_cons, List.map_nil, eq_self, if_true, if_false, reduceIte, Nat.add_eq_left, Nat.left_eq_add, Nat.reduceEqDiff, List.set_cons_zero, List.set_cons_succ, hG] at hO); clear hG
  clear hF
  have hF := hO; (try simp only [Own, Item.Holds, apartI, CellsAt, Nat.reduceAdd, Nat.zero_add, List.mem_cons, List.not_mem_nil, or_false, forall_eq_or_imp, forall_eq, ne_eq, false_imp_iff, implies_true, and_true] at hF)
  go_wp2
  apply own_end hO
  (repeat (first | (with_reducible exact hO) | (with_reducible apply Own.alloc) | (with_reducible apply Own.drew) | ((with_reducible apply Own.set_at); (focus (show _ ≤ _; omega)))))
  have hG := hF; clear hF; clear hO; intro hO
  refine own_ret (v := .tuple #[.agg #[.int .i64 s, .int .i64 a, .int .i64 o], .agg #[.int .i64 st, .int .i64 ha']]) hO ?_ rfl (fun hO => ⟨s, a, o, st, ha', ⟨hs, ha, ho⟩, ⟨h1, h2⟩, rfl, hO.base⟩)
  clear hO; intro w1 hO
  (try simp only [World.size_alloc1, World.size_drew, Nat.reduceAdd] at hO); (try simp only [upd, updI, List.map_cons, List.map_nil, eq_self, if_true, if_false, reduceIte, Nat.add_eq_left, Nat.left_eq_add, Nat.reduceEqDiff, List.set_cons_zero, List.set_cons_succ, hG] at hO); clear hG
  have hF := hO; (try simp only [Own, Item.Holds, apartI, CellsAt, Nat.reduceAdd, Nat.zero_add, List.mem_cons, List.not_mem_nil, or_false, forall_eq_or_imp, forall_eq, ne_eq, false_imp_iff, implies_true, and_true] at hF)
  simp [results, Tryd.results37, go_sem, hF]
end Go.Proofs.YtjfmbklgkmkgjaaDoor
