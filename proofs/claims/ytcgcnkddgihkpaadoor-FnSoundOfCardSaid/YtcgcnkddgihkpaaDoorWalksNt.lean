/- Notes in memory: their cells; the laws' own functions over notes. -/
import Derived.Test.YtcgcnkddgihkpaaDoorWalksPS
import Derived.Test.YtcgcnkddgihkpaaDoorOwn
import Derived.Test.YtcgcnkddgihkpaaDoorPure5
namespace Go.Proofs.YtcgcnkddgihkpaaDoor
set_option linter.unusedSimpArgs false
set_option linter.unusedVariables false
set_option maxRecDepth 8000
open Go.RowKit

/-- The cells of a note; of a voice. -/
def ntC (x : Nt) : List Value := [.bool x.r, .int .i64 x.s, .int .i64 x.a, .int .i64 x.o, .int .i64 x.t, .bool x.y]
def vcC (v : List Nt) : List Value := v.flatMap ntC
theorem vcC_nil : vcC [] = [] := rfl
theorem vcC_append (u v : List Nt) : vcC (u ++ v) = vcC u ++ vcC v := by simp [vcC]
theorem vcC_snoc (u : List Nt) (x : Nt) : vcC u ++ [.bool x.r, .int .i64 x.s, .int .i64 x.a, .int .i64 x.o, .int .i64 x.t, .bool x.y] = vcC (u ++ [x]) := by simp [vcC, ntC]
theorem vcC_len : ∀ v : List Nt, (vcC v).length = v.length * 6
  | [] => rfl
  | x :: l => by
    have := vcC_len l
    simp only [vcC, List.flatMap_cons, List.length_append, List.length_cons] at this ⊢
    rw [this]
    have hx : (ntC x).length = 6 := rfl
    omega
theorem vcC_at : ∀ {v : List Nt} {k : Nat} {x : Nt}, v[k]? = some x → (vcC v)[k * 6]? = some (.bool x.r) ∧ (vcC v)[k * 6 + 1]? = some (.int .i64 x.s) ∧ (vcC v)[k * 6 + 2]? = some (.int .i64 x.a) ∧ (vcC v)[k * 6 + 3]? = some (.int .i64 x.o) ∧ (vcC v)[k * 6 + 4]? = some (.int .i64 x.t) ∧ (vcC v)[k * 6 + 5]? = some (.bool x.y)
  | [], k, x, h => by simp at h
  | z :: l, 0, x, h => by
    simp at h
    subst h
    exact ⟨rfl, rfl, rfl, rfl, rfl, rfl⟩
  | z :: l, k + 1, x, h => by
    have ih := vcC_at (v := l) (k := k) (x := x) (by simpa using h)
    have hz : (ntC z).length = 6 := rfl
    have e : ∀ i, (vcC (z :: l))[(k + 1) * 6 + i]? = (vcC l)[k * 6 + i]? := fun i => by
      show (ntC z ++ vcC l)[(k + 1) * 6 + i]? = _
      rw [List.getElem?_append_right (by omega)]
      congr 1; omega
    have e0 := e 0
    simp only [Nat.add_zero] at e0
    rw [e0, e 1, e 2, e 3, e 4, e 5]
    exact ih
theorem one6 {x : Nt} : ∀ u ∈ [Value.bool x.r, .int .i64 x.s, .int .i64 x.a, .int .i64 x.o, .int .i64 x.t, .bool x.y], u.oneCell' = true := by
  intro u hu
  simp at hu
  rcases hu with rfl | rfl | rfl | rfl | rfl | rfl <;> rfl

theorem infoN : (Tryd.prog.info? 39).map (fun i => (i.zero, i.size, i.bytes)) = some (some (.agg #[.bool false, .int .i64 0, .int .i64 0, .int .i64 0, .int .i64 0, .bool false]), 6, 48) := by kernel_rfl

set_option maxHeartbeats 1000000 in
theorem szN_any (va : Value) (k : Nat) (xs : List Value) (n : Int) (w : World) (ha : SlAt w va k 6 xs) (h0 : 0 ≤ n) (h1 : n ≤ 1000000000) (hk : (k : Int) ≤ 9223372036854775807) :
    Calls Tryd.prog 30 #[va, .int .i64 n] w fun e w' => e = .returned (.int .i64 (if n < k then -1 else n - k)) ∧ w = w' := by
  obtain ⟨A, c, rfl⟩ := ha.form
  clear ha
  have h9 : IntKind.i64.wrap (n - k) = n - k := IntWalk.i64_in _ (by omega)
  by_cases hn : n < k
  · have h2 : n - (k : Int) < 0 := by omega
    have HE := hid (show (if n < k then -1 else n - (k : Int)) = -1 by rw [if_pos hn])
    clear hn
    go_enter Tryd.func30, Tryd.ntmps30
    go_wp2
    go_ret
    exact ⟨rfl, rfl⟩
  · have h2 : 0 ≤ n - (k : Int) := by omega
    have HE := hid (show (if n < k then -1 else n - (k : Int)) = n - k by rw [if_neg hn])
    clear hn
    go_enter Tryd.func30, Tryd.ntmps30
    go_wp2
    go_ret
    exact ⟨rfl, rfl⟩

set_option maxHeartbeats 1000000 in
theorem toNote_any (x : Nt) (w : World) :
    Calls Tryd.prog 67 #[.agg #[.bool x.r, .int .i64 x.s, .int .i64 x.a, .int .i64 x.o, .int .i64 x.t, .bool x.y]] w fun e w' => e = .returned (.agg #[.bool x.r, .int .i64 x.s, .int .i64 x.a, .int .i64 x.o, .int .i64 x.t, .bool x.y]) ∧ Below w.heap.size w w' := by
  have hO := Own.start w
  have hF := True.intro
  go_enter Tryd.func67, Tryd.ntmps67
  go_wp2_with (go_at_call 91; apply own_at hO; (repeat (first | (with_reducible exact hO) | (with_reducible apply Own.alloc) | (with_reducible apply Own.drew) | ((with_reducible apply Own.set_at); (focus (show _ ≤ _; omega))))); have hG := hF; clear hF; clear hO; intro hO; refine own_call hO (fun hB => toPitch_any _ _ _ _) ?_; clear hO; intro w1 hO; (try simp only [World.size_alloc1, World.size_drew, Nat.reduceAdd] at hO); (try simp only [upd, updI, List.map_cons, List.map_nil, eq_self, if_true, if_false, reduceIte, Nat.add_eq_left, Nat.left_eq_add, Nat.reduceEqDiff, List.set_cons_zero, List.set_cons_succ, hG] at hO); clear hG; have hF := hO; (try simp only [Own, Item.Holds, apartI, CellsAt, Nat.reduceAdd, Nat.zero_add, List.mem_cons, List.not_mem_nil, or_false, forall_eq_or_imp, forall_eq, ne_eq, false_imp_iff, implies_true, and_true] at hF))
  apply own_end hO
  (repeat (first | (with_reducible exact hO) | (with_reducible apply Own.alloc) | (with_reducible apply Own.drew) | ((with_reducible apply Own.set_at); (focus (show _ ≤ _; omega)))))
  have hG := hF; clear hF; clear hO; intro hO
  refine own_ret (v := .agg #[.bool x.r, .int .i64 x.s, .int .i64 x.a, .int .i64 x.o, .int .i64 x.t, .bool x.y]) hO ?_ rfl (fun hO => ⟨rfl, hO.base⟩)
  clear hO; intro w1 hO
  (try simp only [World.size_alloc1, World.size_drew, Nat.reduceAdd] at hO); (try simp only [upd, updI, List.map_cons, List.map_nil, eq_self, if_true, if_false, reduceIte, Nat.add_eq_left, Nat.left_eq_add, Nat.reduceEqDiff, List.set_cons_zero, List.set_cons_succ, hG] at hO); clear hG
  have hF := hO; (try simp only [Own, Item.Holds, apartI, CellsAt, Nat.reduceAdd, Nat.zero_add, List.mem_cons, List.not_mem_nil, or_false, forall_eq_or_imp, forall_eq, ne_eq, false_imp_iff, implies_true, and_true] at hF)
  simp [results, Tryd.results67, go_sem, hF]

set_option maxHeartbeats 1000000 in
theorem eqNote_same (x : Nt) (w : World) :
    Calls Tryd.prog 68 #[.agg #[.bool x.r, .int .i64 x.s, .int .i64 x.a, .int .i64 x.o, .int .i64 x.t, .bool x.y], .agg #[.bool x.r, .int .i64 x.s, .int .i64 x.a, .int .i64 x.o, .int .i64 x.t, .bool x.y]] w fun e w' => e = .returned (.bool true) ∧ Below w.heap.size w w' := by
  have hO := Own.start w
  have hF := True.intro
  go_enter Tryd.func68, Tryd.ntmps68
  go_wp2_with (go_at_call 92; apply own_at hO; (repeat (first | (with_reducible exact hO) | (with_reducible apply Own.alloc) | (with_reducible apply Own.drew) | ((with_reducible apply Own.set_at); (focus (show _ ≤ _; omega))))); have hG := hF; clear hF; clear hO; intro hO; refine own_call hO (fun hB => eqPitch_same _ _ _ _) ?_; clear hO; intro w1 hO; (try simp only [World.size_alloc1, World.size_drew, Nat.reduceAdd] at hO); (try simp only [upd, updI, List.map_cons, List.map_nil, eq_self, if_true, if_false, reduceIte, Nat.add_eq_left, Nat.left_eq_add, Nat.reduceEqDiff, List.set_cons_zero, List.set_cons_succ, hG] at hO); clear hG; have hF := hO; (try simp only [Own, Item.Holds, apartI, CellsAt, Nat.reduceAdd, Nat.zero_add, List.mem_cons, List.not_mem_nil, or_false, forall_eq_or_imp, forall_eq, ne_eq, false_imp_iff, implies_true, and_true] at hF))
  go_ret
  exact ⟨rfl, Own.base (by (repeat (first | (with_reducible exact hO) | (with_reducible apply Own.alloc) | (with_reducible apply Own.drew) | ((with_reducible apply Own.set_at); (focus (show _ ≤ _; omega))))))⟩
end Go.Proofs.YtcgcnkddgihkpaaDoor
