/- Chapter 4 in the model: the value with a number of ticks. -/
import Derived.Test.YtblbfmijaalgcaaDoorWalks4V
namespace Go.Proofs.YtblbfmijaalgcaaDoor
set_option linter.unusedSimpArgs false
set_option linter.unusedVariables false
open Go.RowKit

/-- The three cells of one element among them all. -/
theorem flat3_at : ∀ (L : List (Int × Int × Int)) (k : Nat) (b d t : Int), L[k]? = some (b, d, t) → (L.flatMap vC)[k * 3]? = some (.int .i64 b) ∧ (L.flatMap vC)[k * 3 + 1]? = some (.int .i64 d) ∧ (L.flatMap vC)[k * 3 + 2]? = some (.int .i64 t)
  | [], k, b, d, t, h => by simp at h
  | x :: L, 0, b, d, t, h => by
    simp at h
    subst h
    simp [vC]
  | x :: L, k + 1, b, d, t, h => by
    have := flat3_at L k b d t (by simpa using h)
    rw [List.flatMap_cons]
    have hx : (vC x).length = 3 := rfl
    refine ⟨?_, ?_, ?_⟩
    · rw [List.getElem?_append_right (by omega), show (k + 1) * 3 - (vC x).length = k * 3 by omega]; exact this.1
    · rw [List.getElem?_append_right (by omega), show (k + 1) * 3 + 1 - (vC x).length = k * 3 + 1 by omega]; exact this.2.1
    · rw [List.getElem?_append_right (by omega), show (k + 1) * 3 + 2 - (vC x).length = k * 3 + 2 by omega]; exact this.2.2

theorem tk_at0 : ∀ k : Fin 30, (vaL[k.val]?.map fun v => (tickZ v.1 v.2.1 v.2.2, vvB v.1 v.2.1 v.2.2)) = tkL[k.val]?.map fun m => (m, true) := by decide +kernel
theorem tkL_bd0 : ∀ m ∈ tkL, 8 ≤ m ∧ m ≤ 336 := by decide +kernel
theorem va30 : vaL.take 30 = vaL := by decide +kernel

/-- What the k-th value is. -/
theorem va_facts {k : Nat} (hk : k < 30) : ∃ b d t m : Int, vaL[k]? = some (b, d, t) ∧ tkL[k]? = some m ∧ 8 ≤ m ∧ m ≤ 336 ∧ vvB b d t = true ∧ tickZ b d t = m ∧
    (vaC 30)[k * 3]? = some (.int .i64 b) ∧ (vaC 30)[k * 3 + 1]? = some (.int .i64 d) ∧ (vaC 30)[k * 3 + 2]? = some (.int .i64 t) := by
  have h := tk_at0 ⟨k, hk⟩
  simp only at h
  cases hv : vaL[k]? with
  | none => have := List.getElem?_eq_none_iff.1 hv; simp [vaL] at this; omega
  | some v =>
    obtain ⟨b, d, t⟩ := v
    cases ht : tkL[k]? with
    | none => have := List.getElem?_eq_none_iff.1 ht; simp [tkL] at this; omega
    | some m =>
      rw [hv, ht] at h
      simp at h
      have hm := tkL_bd0 m (List.mem_of_getElem? ht)
      have hc := flat3_at vaL k b d t hv
      refine ⟨b, d, t, m, rfl, rfl, hm.1, hm.2, h.2, h.1, ?_⟩
      unfold vaC
      rw [va30]
      exact hc

/-- No value before number k has so many ticks. -/
def noTk (n : Int) (k : Nat) : Prop := ∀ j, j < k → tkL[j]? ≠ some n
theorem noTk_up {n m : Int} {k : Nat} (h : noTk n k) (hm : tkL[k]? = some m) (hne : m ≠ n) : noTk n (k + 1) := fun j hj => by
  by_cases e : j = k
  · subst e; rw [hm]; intro he; exact hne (Option.some.inj he)
  · exact h j (by omega)
theorem tkCases (n : Int) : ∀ k : Nat, k ≤ 30 → (∃ j, j < 30 ∧ noTk n j ∧ tkL[j]? = some n) ∨ noTk n k
  | 0, _ => Or.inr fun j hj => by omega
  | k + 1, hk => by
    rcases tkCases n k (by omega) with h | h
    · exact Or.inl h
    · by_cases e : tkL[k]? = some n
      · exact Or.inl ⟨k, by omega, h, e⟩
      · exact Or.inr fun j hj => by
          by_cases ej : j = k
          · subst ej; exact e
          · exact h j (by omega)
theorem tkCase (n : Int) : (∃ j, j < 30 ∧ noTk n j ∧ tkL[j]? = some n) ∨ noTk n 30 := tkCases n 30 (by omega)

/-- What ValueOf answers. -/
def voP (n : Int) (e : Ending) : Prop :=
  (∃ k b d t, k < 30 ∧ noTk n k ∧ tkL[k]? = some n ∧ vaL[k]? = some (b, d, t) ∧ e = .returned (.tuple #[.agg #[.int .i64 b, .int .i64 d, .int .i64 t], .bool true])) ∨ (noTk n 30 ∧ e = .returned (.tuple #[.agg #[.int .i64 0, .int .i64 0, .int .i64 0], .bool false]))
theorem voP_hit {n b d t : Int} {k : Nat} {e : Ending} (h : voP n e) (hk : k < 30) (hn : noTk n k) (ht : tkL[k]? = some n) (hv : vaL[k]? = some (b, d, t)) : e = .returned (.tuple #[.agg #[.int .i64 b, .int .i64 d, .int .i64 t], .bool true]) := by
  rcases h with ⟨j, b', d', t', hj, hnj, htj, hvj, he⟩ | ⟨h30, _⟩
  · have : j = k := by
      rcases Nat.lt_trichotomy j k with h | h | h
      · exact absurd htj (hn j h)
      · exact h
      · exact absurd ht (hnj k h)
    subst this
    rw [hv] at hvj
    cases hvj
    exact he
  · exact absurd ht (h30 k hk)
theorem voP_miss {n : Int} {e : Ending} (h : voP n e) (hn : noTk n 30) : e = .returned (.tuple #[.agg #[.int .i64 0, .int .i64 0, .int .i64 0], .bool false]) := by
  rcases h with ⟨j, _, _, _, hj, _, htj, _, _⟩ | ⟨_, he⟩
  · exact absurd htj (hn j hj)
  · exact he

set_option maxHeartbeats 4000000 in
theorem voS_any (n : Int) (w : World) :
    Calls Tryd.prog 21 #[.int .i64 n] w fun e w' => voP n e ∧ Below w.heap.size w w' := by
  have hO := Own.start w
  have hF := True.intro
  go_enter Tryd.func21, Tryd.ntmps21
  go_wp2_with ((go_at_call 39; apply own_at hO; (repeat (first | (with_reducible exact hO) | (with_reducible apply Own.alloc) | (with_reducible apply Own.drew) | ((with_reducible apply Own.set_at); (focus (show _ ≤ _; omega))))); have hG := hF; clear hF; clear hO; intro hO; refine own_call_row hO (fun hB => vasS_any _) ?_; clear hO; intro v w1 hO; (try simp only [World.size_alloc1, World.size_drew, Nat.reduceAdd] at hO); (try simp only [upd, updI, List.map_cons, List.map_nil, eq_self, if_true, if_false, reduceIte, Nat.add_eq_left, Nat.left_eq_add, Nat.reduceEqDiff, List.set_cons_zero, List.set_cons_succ, hG] at hO); clear hG; have hF := hO; (try simp only [Own, Item.Holds, apartI, CellsAt, Nat.reduceAdd, Nat.zero_add, List.mem_cons, List.not_mem_nil, or_false, forall_eq_or_imp, forall_eq, ne_eq, false_imp_iff, implies_true, and_true] at hF)); obtain ⟨q, cap, hv1, hq1, hq2⟩ := hO.row_open (by omega); subst hv1; unfold maxLen at hq2; clear hF; have hF := hO; (try simp only [Own, Item.Holds, apartI, CellsAt, Nat.reduceAdd, Nat.zero_add, List.mem_cons, List.not_mem_nil, or_false, forall_eq_or_imp, forall_eq, ne_eq, false_imp_iff, implies_true, and_true] at hF))
  go_loopw [5] (fun t wr => ∃ k : Nat, k ≤ 30 ∧ t = .int .i64 k ∧ noTk n k ∧ Own w.heap.size (Below w.heap.size w) wr [.row 24 3 (.slice (some ⟨q, 0, none⟩) 30 cap) 30 (vaC 30), .blk w.heap.size [.int .i64 0, .int .i64 0, .int .i64 0]]) (fun t _ => (30 - intOf t).toNat)
  case atStart => exact ⟨0, by omega, rfl, fun j hj => by omega, hO⟩
  case round =>
    clear hO hF
    obtain ⟨k, hk, rfl, hn, hO⟩ := hrel
    have HN := hid hn
    clear hn
    have hF := hO; (try simp only [Own, Item.Holds, apartI, CellsAt, Nat.reduceAdd, Nat.zero_add, List.mem_cons, List.not_mem_nil, or_false, forall_eq_or_imp, forall_eq, ne_eq, false_imp_iff, implies_true, and_true] at hF)
    by_cases h30 : k = 30
    · subst h30
      go_wp2_with fail
      apply own_end hO
      (repeat (first | (with_reducible exact hO) | (with_reducible apply Own.alloc) | (with_reducible apply Own.drew) | ((with_reducible apply Own.set_at); (focus (show _ ≤ _; omega)))))
      have hG := hF; clear hF; clear hO; intro hO
      refine own_ret (v := .tuple #[.agg #[.int .i64 0, .int .i64 0, .int .i64 0], .bool false]) hO ?_ rfl (fun hO => ⟨Or.inr ⟨HN.out, rfl⟩, hO.base⟩)
      clear hO; intro w1 hO
      (try simp only [World.size_alloc1, World.size_drew, Nat.reduceAdd] at hO); (try simp only [upd, updI, List.map_cons, List.map_nil, eq_self, if_true, if_false, reduceIte, Nat.add_eq_left, Nat.left_eq_add, Nat.reduceEqDiff, List.set_cons_zero, List.set_cons_succ, hG] at hO); clear hG
      have hF := hO; (try simp only [Own, Item.Holds, apartI, CellsAt, Nat.reduceAdd, Nat.zero_add, List.mem_cons, List.not_mem_nil, or_false, forall_eq_or_imp, forall_eq, ne_eq, false_imp_iff, implies_true, and_true] at hF)
      simp [results, Tryd.results21, go_sem, hF]
    · have hlt : k < 30 := by omega
      clear h30 hk
      obtain ⟨b, d, t, m, hva, htk, m0, m1, hvv, htz, E0, E1, E2⟩ := va_facts hlt
      have HT := hid (show ∀ W, Calls Tryd.prog 36 #[.agg #[.int .i64 b, .int .i64 d, .int .i64 t]] W fun e w' => e = .returned (.int .i64 m) ∧ Below W.heap.size W w' from fun W => by
        have := tkS_any b d t W hvv
        rwa [htz] at this)
      have HV := hid hva
      have HK := hid htk
      have c0 := hO.row_cell E0
      have c1 := hO.row_cell E1
      have c2 := hO.row_cell E2
      have HE := hid (And.intro E0 (And.intro E1 E2))
      clear hva htk hvv htz E0 E1 E2
      cases hb : (m == n)
      · have hne : m ≠ n := by simpa using hb
        have HQ := hid hne
        clear hne
        go_wp2_with (go_at_call 36; apply own_at hO; (repeat (first | (with_reducible exact hO) | (with_reducible apply Own.alloc) | (with_reducible apply Own.drew) | ((with_reducible apply Own.set_at); (focus (show _ ≤ _; omega))))); have hG := hF; clear hF; clear hO; intro hO; refine own_call hO (fun hB => HT.out _) ?_; clear hO; intro w1 hO; (try simp only [World.size_alloc1, World.size_drew, Nat.reduceAdd] at hO); (try simp only [upd, updI, List.map_cons, List.map_nil, eq_self, if_true, if_false, reduceIte, Nat.add_eq_left, Nat.left_eq_add, Nat.reduceEqDiff, List.set_cons_zero, List.set_cons_succ, hG] at hO); clear hG; have hF := hO; (try simp only [Own, Item.Holds, apartI, CellsAt, Nat.reduceAdd, Nat.zero_add, List.mem_cons, List.not_mem_nil, or_false, forall_eq_or_imp, forall_eq, ne_eq, false_imp_iff, implies_true, and_true] at hF))
        go_roundw
        case rel => exact ⟨k + 1, by omega, by go_num, noTk_up HN.out HK.out HQ.out, hO⟩
        case measure => simp [intOf]; omega
      · have he : m = n := by simpa using hb
        have HQ := hid he
        clear he
        go_wp2_with ((go_at_call 36; apply own_at hO; (repeat (first | (with_reducible exact hO) | (with_reducible apply Own.alloc) | (with_reducible apply Own.drew) | ((with_reducible apply Own.set_at); (focus (show _ ≤ _; omega))))); have hG := hF; clear hF; clear hO; intro hO; refine own_call hO (fun hB => HT.out _) ?_; clear hO; intro w1 hO; (try simp only [World.size_alloc1, World.size_drew, Nat.reduceAdd] at hO); (try simp only [upd, updI, List.map_cons, List.map_nil, eq_self, if_true, if_false, reduceIte, Nat.add_eq_left, Nat.left_eq_add, Nat.reduceEqDiff, List.set_cons_zero, List.set_cons_succ, hG] at hO); clear hG; have hF := hO; (try simp only [Own, Item.Holds, apartI, CellsAt, Nat.reduceAdd, Nat.zero_add, List.mem_cons, List.not_mem_nil, or_false, forall_eq_or_imp, forall_eq, ne_eq, false_imp_iff, implies_true, and_true] at hF)); have c0 := hO.row_cell HE.out.1; have c1 := hO.row_cell HE.out.2.1; have c2 := hO.row_cell HE.out.2.2)
        apply own_end hO
        (repeat (first | (with_reducible exact hO) | (with_reducible apply Own.alloc) | (with_reducible apply Own.drew) | ((with_reducible apply Own.set_at); (focus (show _ ≤ _; omega)))))
        have hG := hF; clear hF; clear hO; intro hO
        refine own_ret (v := .tuple #[.agg #[.int .i64 b, .int .i64 d, .int .i64 t], .bool true]) hO ?_ rfl (fun hO => ⟨Or.inl ⟨k, b, d, t, hlt, HN.out, HQ.out ▸ HK.out, HV.out, rfl⟩, hO.base⟩)
        clear hO; intro w1 hO
        (try simp only [World.size_alloc1, World.size_drew, Nat.reduceAdd] at hO); (try simp only [upd, updI, List.map_cons, List.map_nil, eq_self, if_true, if_false, reduceIte, Nat.add_eq_left, Nat.left_eq_add, Nat.reduceEqDiff, List.set_cons_zero, List.set_cons_succ, hG] at hO); clear hG
        have hF := hO; (try simp only [Own, Item.Holds, apartI, CellsAt, Nat.reduceAdd, Nat.zero_add, List.mem_cons, List.not_mem_nil, or_false, forall_eq_or_imp, forall_eq, ne_eq, false_imp_iff, implies_true, and_true] at hF)
        simp [results, Tryd.results21, go_sem, hF]
theorem voS_hit (n b d t : Int) (k : Nat) (w : World) (hk : k < 30) (hn : noTk n k) (ht : tkL[k]? = some n) (hv : vaL[k]? = some (b, d, t)) :
    Calls Tryd.prog 21 #[.int .i64 n] w fun e w' => e = .returned (.tuple #[.agg #[.int .i64 b, .int .i64 d, .int .i64 t], .bool true]) ∧ Below w.heap.size w w' :=
  (voS_any n w).mono fun _ _ ⟨he, hb⟩ => ⟨voP_hit he hk hn ht hv, hb⟩
theorem voS_miss (n : Int) (w : World) (hn : noTk n 30) :
    Calls Tryd.prog 21 #[.int .i64 n] w fun e w' => e = .returned (.tuple #[.agg #[.int .i64 0, .int .i64 0, .int .i64 0], .bool false]) ∧ Below w.heap.size w w' :=
  (voS_any n w).mono fun _ _ ⟨he, hb⟩ => ⟨voP_miss he hn, hb⟩
end Go.Proofs.YtblbfmijaalgcaaDoor
