/- The functions that draw for chapter 13: a bass pitch; a key, a bass pitch and a figure. -/
import Derived.Test.YtfdglkiehkilnaaDoorDraws10
import Derived.Test.YtfdglkiehkilnaaDoorDrawsKey
import Derived.Test.YtfdglkiehkilnaaDoorDrawBase
import Derived.Test.YtfdglkiehkilnaaDoorWalks3S
namespace Go.Proofs.YtfdglkiehkilnaaDoor
set_option linter.unusedSimpArgs false
set_option linter.unusedVariables false
set_option maxRecDepth 8000
open Go.RowKit

theorem kaS_is {f s z : Int} (h : kaZ f s = z) (W : World) :
    Calls Tryd.prog 87 #[.int .i64 f, .int .i64 s] W fun e w' => e = .returned (.int .i64 z) ∧ Below W.heap.size W w' := by
  subst h; exact kaS_any f s W
/-- A bass pitch is drawn. -/
def DrewBa (r : Nat) (P f : Int) (w : World) (e : Ending) (w' : World) : Prop :=
  ∃ s o : Int, (0 ≤ s ∧ s ≤ 6) ∧ (2 ≤ o ∧ o ≤ 3) ∧ e = .returned (.agg #[.int .i64 s, .int .i64 (kaZ f s), .int .i64 o]) ∧ Rd w' r (P + 2) ∧ ButR r w w'

set_option maxHeartbeats 2000000 in
theorem l20Bass_any (r : Nat) (P f : Int) (w : World) (h : Rd w r P) (hP : P ≤ 900000) :
    Calls Tryd.prog 102 #[.pointer (some ⟨r, 0, none⟩), .int .i64 f] w (DrewBa r P f w) := by
  have hr0 := h.lt
  have hO := Own.startD h
  have hF := True.intro
  clear h
  go_enter Tryd.func102, Tryd.ntmps102
  go_wp2_with fail
  (go_at_call 65; apply own_at hO; (repeat (first | (with_reducible exact hO) | (with_reducible apply Own.alloc) | (with_reducible apply Own.drew) | ((with_reducible apply Own.set_at); (focus (show _ ≤ _; omega))))); have hG := hF; clear hF; clear hO; intro hO; refine own_pick (k := 7) hO hr0 (by omega) (by omega) (by omega) ?_; clear hO; intro x w1 x0 x1 hO; (try simp only [World.size_alloc1, World.size_drew, Nat.reduceAdd] at hO); (try simp only [upd, updI, List.map_cons, List.map_nil, eq_self, if_true, if_false, reduceIte, Nat.add_eq_left, Nat.left_eq_add, Nat.reduceEqDiff, List.set_cons_zero, List.set_cons_succ, hG] at hO); clear hG; have hF := hO; (try simp only [Own, Item.Holds, apartI, CellsAt, Nat.reduceAdd, Nat.zero_add, List.mem_cons, List.not_mem_nil, or_false, forall_eq_or_imp, forall_eq, ne_eq, false_imp_iff, implies_true, and_true] at hF))
  obtain ⟨a, ha⟩ : ∃ a, kaZ f x = a := ⟨_, rfl⟩
  have HA := hid (And.intro ha (And.intro x0 x1))
  have HK := hid (fun W => kaS_is ha W)
  clear ha x0 x1
  generalize x = s at HA HK ⊢
  clear x
  go_wp2_with (go_at_call 87; apply own_at hO; (repeat (first | (with_reducible exact hO) | (with_reducible apply Own.alloc) | (with_reducible apply Own.drew) | ((with_reducible apply Own.set_at); (focus (show _ ≤ _; omega))))); have hG := hF; clear hF; clear hO; intro hO; refine own_call hO (fun hB => HK.out _) ?_; clear hO; intro w1 hO; (try simp only [World.size_alloc1, World.size_drew, Nat.reduceAdd] at hO); (try simp only [upd, updI, List.map_cons, List.map_nil, eq_self, if_true, if_false, reduceIte, Nat.add_eq_left, Nat.left_eq_add, Nat.reduceEqDiff, List.set_cons_zero, List.set_cons_succ, hG] at hO); clear hG; have hF := hO; (try simp only [Own, Item.Holds, apartI, CellsAt, Nat.reduceAdd, Nat.zero_add, List.mem_cons, List.not_mem_nil, or_false, forall_eq_or_imp, forall_eq, ne_eq, false_imp_iff, implies_true, and_true] at hF))
  (go_at_call 65; apply own_at hO; (repeat (first | (with_reducible exact hO) | (with_reducible apply Own.alloc) | (with_reducible apply Own.drew) | ((with_reducible apply Own.set_at); (focus (show _ ≤ _; omega))))); have hG := hF; clear hF; clear hO; intro hO; refine own_pick (k := 2) hO hr0 (by omega) (by omega) (by omega) ?_; clear hO; intro x w1 x0 x1 hO; (try simp only [World.size_alloc1, World.size_drew, Nat.reduceAdd] at hO); (try simp only [upd, updI, List.map_cons, List.map_nil, eq_self, if_true, if_false, reduceIte, Nat.add_eq_left, Nat.left_eq_add, Nat.reduceEqDiff, List.set_cons_zero, List.set_cons_succ, hG] at hO); clear hG; have hF := hO; (try simp only [Own, Item.Holds, apartI, CellsAt, Nat.reduceAdd, Nat.zero_add, List.mem_cons, List.not_mem_nil, or_false, forall_eq_or_imp, forall_eq, ne_eq, false_imp_iff, implies_true, and_true] at hF))
  have wx : IntKind.i64.wrap (2 + x) = 2 + x := IntWalk.i64_in _ (by omega)
  have HX := hid (And.intro x0 x1)
  go_wp2_with fail
  apply own_end hO
  (repeat (first | (with_reducible exact hO) | (with_reducible apply Own.alloc) | (with_reducible apply Own.drew) | ((with_reducible apply Own.set_at); (focus (show _ ≤ _; omega)))))
  have hG := hF; clear hF; clear hO; intro hO
  refine own_ret (v := .agg #[.int .i64 s, .int .i64 a, .int .i64 (2 + x)]) hO ?_ rfl (fun hO => ⟨s, 2 + x, by have := HA.out.2; omega, by have := HX.out; omega, by rw [HA.out.1], hO.base.2.mono (by omega), hO.base.1⟩)
  clear hO; intro w1 hO
  (try simp only [World.size_alloc1, World.size_drew, Nat.reduceAdd] at hO); (try simp only [upd, updI, List.map_cons, List.map_nil, eq_self, if_true, if_false, reduceIte, Nat.add_eq_left, Nat.left_eq_add, Nat.reduceEqDiff, List.set_cons_zero, List.set_cons_succ, hG] at hO); clear hG
  have hF := hO; (try simp only [Own, Item.Holds, apartI, CellsAt, Nat.reduceAdd, Nat.zero_add, List.mem_cons, List.not_mem_nil, or_false, forall_eq_or_imp, forall_eq, ne_eq, false_imp_iff, implies_true, and_true] at hF)
  simp [results, Tryd.results102, go_sem, hF]
theorem own_bass {r : Nat} {w0 W : World} {P f : Int} {L : List Item} {K : Ending → World → Prop} (hO : Own w0.heap.size (Bd r w0 P) W L) (hr : r < w0.heap.size) (hP : P ≤ 900000)
    (h : ∀ (s o : Int) w1, (0 ≤ s ∧ s ≤ 6) → (2 ≤ o ∧ o ≤ 3) → Own w0.heap.size (Bd r w0 (P + 2)) w1 L → K (.returned (.agg #[.int .i64 s, .int .i64 (kaZ f s), .int .i64 o])) w1) :
    Calls Tryd.prog 102 #[.pointer (some ⟨r, 0, none⟩), .int .i64 f] W K :=
  (l20Bass_any r P f W hO.base.2 hP).mono fun e w1 ⟨s, o, hs, ho, he, hR, hb⟩ => by
    subst he
    exact h s o w1 hs ho (hO.but hr (Stab.bd hr) ⟨hO.base.1.trans hb, hR⟩ hb)

theorem ne_two13 {a b r : Nat} {xs ys : List Value} (h1 : a ≠ r) (h2 : b ≠ r) : ∀ x ∈ [Item.blk a xs, Item.blk b ys], x.at? ≠ some r := by
  intro x hx e
  simp at hx
  rcases hx with rfl | rfl
  · exact h1 (by simpa [Item.at?] using e)
  · exact h2 (by simpa [Item.at?] using e)
theorem ne_three13 {a b c r : Nat} {xs ys zs : List Value} (h1 : a ≠ r) (h2 : b ≠ r) (h3 : c ≠ r) : ∀ x ∈ [Item.blk a xs, Item.blk b ys, Item.blk c zs], x.at? ≠ some r := by
  intro x hx e
  simp at hx
  rcases hx with rfl | rfl | rfl
  · exact h1 (by simpa [Item.at?] using e)
  · exact h2 (by simpa [Item.at?] using e)
  · exact h3 (by simpa [Item.at?] using e)
/-- The reader is there until the one pick. -/
def XR13 (r : Nat) (P : Int) : Nat → World → Prop
  | 0 => fun w => Rd w r P
  | _ + 1 => fun _ => True
theorem fg6_bd {x y : Int} (h0 : 0 ≤ x) (h1 : x ≤ 5) (h : ([5, 6, 4, 7, 5, 3] : List Int).getD x.toNat 0 = y) : 3 ≤ y ∧ y ≤ 7 := by
  subst h
  rcases (show x = 0 ∨ x = 1 ∨ x = 2 ∨ x = 3 ∨ x = 4 ∨ x = 5 by omega) with rfl | rfl | rfl | rfl | rfl | rfl <;> decide
end Go.Proofs.YtfdglkiehkilnaaDoor
