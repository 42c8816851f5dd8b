/- Plain facts for chapter 16: the ticks at which voices meet; what sounds together; canons. -/
import Derived.Test.YtmkhpafcgobfhaaDoorPure5c
namespace Go.Proofs.YtmkhpafcgobfhaaDoor
set_option linter.unusedSimpArgs false
set_option linter.unusedVariables false
set_option maxRecDepth 8000

/- Where notes begin. -/
/-- A note of the voice begins at the tick, or the voice ends there. -/
def onB (v : List Nt) (t : Int) : Bool := (List.range (v.length + 1)).any fun k => sumT (v.take k) == t
theorem onB_iff {v : List Nt} {t : Int} : onB v t = true ↔ ∃ k, k ≤ v.length ∧ sumT (v.take k) = t := by
  unfold onB
  rw [List.any_eq_true]
  constructor
  · rintro ⟨k, hk, h⟩
    have := List.mem_range.1 hk
    exact ⟨k, by omega, by simpa using h⟩
  · rintro ⟨k, hk, h⟩
    exact ⟨k, List.mem_range.2 (by omega), by simpa using h⟩
/-- The ticks before n at which one of two voices begins a note or ends. -/
def onL (a b : List Nt) (n : Nat) : List Int := ((List.range n).filter fun (t : Nat) => onB a (t : Int) || onB b (t : Int)).map fun (t : Nat) => (t : Int)
theorem onL_up (a b : List Nt) (n : Nat) : onL a b (n + 1) = onL a b n ++ if (onB a (n : Int) || onB b (n : Int)) = true then [(n : Int)] else [] := by
  unfold onL
  rw [List.range_succ, List.filter_append, List.map_append]
  congr 1
  by_cases h : (onB a (n : Int) || onB b (n : Int)) = true
  · rw [if_pos h, List.filter_cons, if_pos h]; rfl
  · rw [if_neg h, List.filter_cons, if_neg h]; rfl
theorem onL_zero (a b : List Nt) : onL a b 0 = [] := rfl
theorem onL_skip {a b : List Nt} {m : Nat} : ∀ {d : Nat}, (∀ t : Nat, m ≤ t → t < m + d → (onB a (t : Int) || onB b (t : Int)) = false) → onL a b (m + d) = onL a b m
  | 0, _ => rfl
  | d + 1, h => by
    rw [show m + (d + 1) = m + d + 1 by omega, onL_up, if_neg (by rw [h (m + d) (by omega) (by omega)]; decide), List.append_nil]
    exact onL_skip fun t h1 h2 => h t h1 (by omega)
theorem onL_mem {a b : List Nt} {n : Nat} {t : Int} : t ∈ onL a b n ↔ 0 ≤ t ∧ t < n ∧ (onB a t = true ∨ onB b t = true) := by
  unfold onL
  rw [List.mem_map]
  constructor
  · rintro ⟨k, hk, rfl⟩
    obtain ⟨h1, h2⟩ := List.mem_filter.1 hk
    have := List.mem_range.1 h1
    exact ⟨by omega, by omega, by simpa using h2⟩
  · rintro ⟨h0, h1, h2⟩
    refine ⟨t.toNat, List.mem_filter.2 ⟨List.mem_range.2 (by omega), ?_⟩, by omega⟩
    rw [show ((t.toNat : Nat) : Int) = t by omega]
    simpa using h2
theorem onL_asc (a b : List Nt) : ∀ n, (onL a b n).Pairwise fun x y => x < y
  | 0 => by simp [onL]
  | n + 1 => by
    rw [onL_up]
    refine List.pairwise_append.2 ⟨onL_asc a b n, by split <;> simp, fun x hx y hy => ?_⟩
    split at hy
    · obtain rfl := List.mem_singleton.1 hy
      exact (onL_mem.1 hx).2.1
    · cases hy
theorem onL_comm (a b : List Nt) (n : Nat) : onL a b n = onL b a n := by
  unfold onL
  congr 1
  refine List.filter_congr fun t _ => ?_
  rw [Bool.or_comm]
theorem ascZ_eq : ∀ {a b : List Int}, a.Pairwise (· < ·) → b.Pairwise (· < ·) → (∀ x, x ∈ a ↔ x ∈ b) → a = b
  | [], [], _, _, _ => rfl
  | [], y :: b, _, _, h => by have := (h y).2 List.mem_cons_self; cases this
  | x :: a, [], _, _, h => by have := (h x).1 List.mem_cons_self; cases this
  | x :: a, y :: b, ha, hb, h => by
    obtain ⟨a1, a2⟩ := List.pairwise_cons.1 ha
    obtain ⟨b1, b2⟩ := List.pairwise_cons.1 hb
    have e : x = y := by
      rcases List.mem_cons.1 ((h x).1 List.mem_cons_self) with e | h1
      · exact e
      · rcases List.mem_cons.1 ((h y).2 List.mem_cons_self) with e | h2
        · exact e.symm
        · have := a1 y h2
          have := b1 x h1
          omega
    subst e
    rw [ascZ_eq a2 b2 fun z => ⟨fun hz => ?_, fun hz => ?_⟩]
    · rcases List.mem_cons.1 ((h z).1 (List.mem_cons_of_mem _ hz)) with e | h1
      · have := a1 z hz
        omega
      · exact h1
    · rcases List.mem_cons.1 ((h z).2 (List.mem_cons_of_mem _ hz)) with e | h1
      · have := b1 z hz
        omega
      · exact h1

/- The sums of a valid voice grow. -/
theorem sum_step {v : List Nt} (h : tieB v = true) {k : Nat} {x : Nt} (hx : v[k]? = some x) : sumT (v.take (k + 1)) = sumT (v.take k) + x.t ∧ 1 ≤ x.t ∧ x.t ≤ 768 := by
  refine ⟨?_, nv_pos (tieB_at h hx)⟩
  rw [List.take_add_one, hx, sumT_append]
  simp [sumT]
theorem sum_mono16 {v : List Nt} (h : tieB v = true) {k : Nat} : ∀ {d : Nat}, k + d ≤ v.length → sumT (v.take k) + (d : Int) ≤ sumT (v.take (k + d))
  | 0, _ => by simp
  | d + 1, hd => by
    obtain ⟨x, hx⟩ : ∃ x, v[k + d]? = some x := ⟨_, List.getElem?_eq_getElem (by omega)⟩
    have h1 := sum_mono16 h (k := k) (d := d) (by omega)
    obtain ⟨h2, h3, _⟩ := sum_step h hx
    rw [show k + (d + 1) = k + d + 1 by omega, h2]
    omega
theorem sum_lt16 {v : List Nt} (h : tieB v = true) {j k : Nat} (hjk : j < k) (hk : k ≤ v.length) : sumT (v.take j) < sumT (v.take k) := by
  have := sum_mono16 h (k := j) (d := k - j) (by omega)
  rw [show j + (k - j) = k by omega] at this
  omega
theorem sum_bd16 {v : List Nt} (h : tieB v = true) {k : Nat} (hk : k ≤ v.length) : 0 ≤ sumT (v.take k) ∧ sumT (v.take k) ≤ sumT v := by
  have h1 := sum_mono16 h (k := 0) (d := k) (by omega)
  have h2 := sum_mono16 h (k := k) (d := v.length - k) (by omega)
  rw [show k + (v.length - k) = v.length by omega, List.take_length] at h2
  rw [Nat.zero_add] at h1
  simp [sumT] at h1
  omega
theorem sum_zero16 (v : List Nt) : sumT (v.take 0) = 0 := rfl
theorem sum_all16 {v : List Nt} (h : voB v = true) : 0 ≤ sumT v ∧ sumT v ≤ 46080 := by
  obtain ⟨h1, h2⟩ := voB_iff.1 h
  have := sumT_pos h1
  omega

/- The next tick. -/
/-- The lesser one of the next tick so far and another one, if that is behind the tick. -/
def stepN (n at' t : Int) : Int := if t < at' ∧ (n < 0 ∨ at' < n) then at' else n
def nxP (n : Int) (v : List Nt) (t : Int) : Nat → Int
  | 0 => n
  | k + 1 => stepN (nxP n v t k) (sumT (v.take (k + 1))) t
theorem nxP_is {n t : Int} {v : List Nt} (h0 : 0 ≤ t) : ∀ k, (nxP n v t k = n ∨ ∃ j, 1 ≤ j ∧ j ≤ k ∧ nxP n v t k = sumT (v.take j) ∧ t < nxP n v t k) ∧ (∀ j, 1 ≤ j → j ≤ k → t < sumT (v.take j) → 0 ≤ nxP n v t k ∧ nxP n v t k ≤ sumT (v.take j)) ∧ (0 ≤ n → 0 ≤ nxP n v t k ∧ nxP n v t k ≤ n)
  | 0 => ⟨Or.inl rfl, fun j h1 h2 => by omega, fun h => ⟨h, Int.le_refl _⟩⟩
  | k + 1 => by
    obtain ⟨h1, h2, h3⟩ := nxP_is (n := n) (v := v) h0 k
    unfold nxP stepN
    obtain ⟨m, hm⟩ : ∃ m, nxP n v t k = m := ⟨_, rfl⟩
    rw [hm] at h1 h2 h3 ⊢
    by_cases hc : t < sumT (v.take (k + 1)) ∧ (m < 0 ∨ sumT (v.take (k + 1)) < m)
    · rw [if_pos hc]
      refine ⟨Or.inr ⟨k + 1, by omega, by omega, rfl, hc.1⟩, fun j g1 g2 g3 => ?_, fun hn => ?_⟩
      · by_cases hj : j = k + 1
        · subst hj; omega
        · have := h2 j g1 (by omega) g3
          omega
      · have := h3 hn
        omega
    · rw [if_neg hc]
      refine ⟨?_, fun j g1 g2 g3 => ?_, h3⟩
      · rcases h1 with h1 | ⟨j, g1, g2, g3⟩
        · exact Or.inl h1
        · exact Or.inr ⟨j, g1, by omega, g3⟩
      · by_cases hj : j = k + 1
        · subst hj; omega
        · exact h2 j g1 (by omega) g3
/-- The next tick of two voices behind a tick. -/
def nxZ (a b : List Nt) (t : Int) : Int := nxP (nxP (-1) a t a.length) b t b.length
/-- The last tick of two voices. -/
def moZ (a b : List Nt) : Nat := (max (sumT a) (sumT b)).toNat
theorem onB_of {v : List Nt} {j : Nat} (hj : j ≤ v.length) : onB v (sumT (v.take j)) = true := onB_iff.2 ⟨j, hj, rfl⟩
theorem onB_end (v : List Nt) : onB v (sumT v) = true := by
  have := onB_of (v := v) (j := v.length) (Nat.le_refl _)
  rwa [List.take_length] at this
theorem onB_zero (v : List Nt) : onB v 0 = true := onB_of (v := v) (j := 0) (Nat.zero_le _)
theorem onB_pos {v : List Nt} {t s : Int} (h0 : 0 ≤ t) (hs : t < s) (h : onB v s = true) : ∃ j, 1 ≤ j ∧ j ≤ v.length ∧ sumT (v.take j) = s := by
  obtain ⟨j, h1, h2⟩ := onB_iff.1 h
  refine ⟨j, ?_, h1, h2⟩
  cases j with
  | zero => rw [sum_zero16] at h2; omega
  | succ j => omega
/-- Behind a tick before the end the next one is the least at which a note begins or a voice ends. -/
theorem nx_is {a b : List Nt} (ha : tieB a = true) (hb : tieB b = true) {t : Int} (h0 : 0 ≤ t) (h1 : t < (moZ a b : Int)) :
    t < nxZ a b t ∧ nxZ a b t ≤ (moZ a b : Int) ∧ (onB a (nxZ a b t) || onB b (nxZ a b t)) = true ∧ ∀ s, t < s → (onB a s || onB b s) = true → nxZ a b t ≤ s := by
  obtain ⟨p1, p2, p3⟩ := nxP_is (n := -1) (v := a) h0 a.length
  obtain ⟨q1, q2, q3⟩ := nxP_is (n := nxP (-1) a t a.length) (v := b) h0 b.length
  have e : nxZ a b t = nxP (nxP (-1) a t a.length) b t b.length := rfl
  rw [← e] at q1 q2 q3
  obtain ⟨m, hm⟩ : ∃ m, nxP (-1) a t a.length = m := ⟨_, rfl⟩
  obtain ⟨r, hr⟩ : ∃ m, nxZ a b t = m := ⟨_, rfl⟩
  rw [hm] at p1 p2 p3 q1 q3
  rw [hr] at q1 q2 q3 ⊢
  have hmin : ∀ s, t < s → (onB a s || onB b s) = true → 0 ≤ r ∧ r ≤ s := fun s hs ho => by
    rw [Bool.or_eq_true] at ho
    rcases ho with ho | ho
    · obtain ⟨j, g1, g2, g3⟩ := onB_pos h0 hs ho
      have h4 := p2 j g1 g2 (by rw [g3]; exact hs)
      have h5 := q3 h4.1
      omega
    · obtain ⟨j, g1, g2, g3⟩ := onB_pos h0 hs ho
      have h4 := q2 j g1 g2 (by rw [g3]; exact hs)
      omega
  have hM : (onB a (moZ a b : Int) || onB b (moZ a b : Int)) = true := by
    have ha2 := sum_bd16 ha (Nat.le_refl _)
    have hb2 := sum_bd16 hb (Nat.le_refl _)
    rw [List.take_length] at ha2 hb2
    rcases Int.le_total (sumT a) (sumT b) with h | h
    · rw [show (moZ a b : Int) = sumT b by unfold moZ; omega, onB_end, Bool.or_true]
    · rw [show (moZ a b : Int) = sumT a by unfold moZ; omega, onB_end, Bool.true_or]
  have h6 := hmin _ h1 hM
  refine ⟨?_, h6.2, ?_, fun s hs ho => (hmin s hs ho).2⟩
  · rcases q1 with q1 | ⟨j, _, _, _, g⟩
    · rcases p1 with p1 | ⟨j, _, _, _, g⟩
      · omega
      · omega
    · exact g
  · rw [Bool.or_eq_true]
    rcases q1 with q1 | ⟨j, g1, g2, g3, _⟩
    · rcases p1 with p1 | ⟨j, g1, g2, g3, _⟩
      · omega
      · exact Or.inl (by rw [q1, g3]; exact onB_of g2)
    · exact Or.inr (by rw [g3]; exact onB_of g2)
theorem nx_no {a b : List Nt} {t : Int} (h0 : 0 ≤ t) : -1 ≤ nxZ a b t := by
  obtain ⟨p1, _, _⟩ := nxP_is (n := -1) (v := a) h0 a.length
  obtain ⟨q1, _, _⟩ := nxP_is (n := nxP (-1) a t a.length) (v := b) h0 b.length
  unfold nxZ
  rcases q1 with q1 | ⟨j, _, _, _, g⟩
  · rcases p1 with p1 | ⟨j, _, _, _, g⟩ <;> omega
  · omega
/-- Ticks one after the other. -/
theorem on_next {a b : List Nt} (ha : tieB a = true) (hb : tieB b = true) {t : Nat} (h1 : (t : Int) < (moZ a b : Int)) (ho : (onB a (t : Int) || onB b (t : Int)) = true) : onL a b (nxZ a b t).toNat = onL a b t ++ [(t : Int)] ∧ (nxZ a b t).toNat ≤ moZ a b ∧ ((nxZ a b t).toNat : Int) = nxZ a b t ∧ t < (nxZ a b t).toNat := by
  obtain ⟨g1, g2, g3, g4⟩ := nx_is ha hb (Int.natCast_nonneg t) h1
  obtain ⟨r, hr⟩ : ∃ r : Nat, nxZ a b t = (r : Int) := ⟨(nxZ a b t).toNat, by omega⟩
  rw [hr] at g1 g2 g3 g4 ⊢
  rw [Int.toNat_natCast]
  refine ⟨?_, by omega, rfl, by omega⟩
  obtain ⟨d, rfl⟩ : ∃ d, r = t + 1 + d := ⟨r - (t + 1), by omega⟩
  rw [onL_skip, onL_up, if_pos ho]
  intro s h2 h3
  rw [← Bool.not_eq_true]
  intro h4
  have := g4 s (by omega) h4
  omega
/-- What MeetTicks answers. -/
def bvB (a b : List Nt) : Bool := voB a && voB b
def mtL (a b : List Nt) : List Int := if bvB a b = true then onL a b (moZ a b) else []
theorem mt_comm (a b : List Nt) : mtL a b = mtL b a := by
  unfold mtL bvB
  rw [Bool.and_comm, onL_comm, show moZ a b = moZ b a by unfold moZ; rw [Int.max_comm]]
theorem onL_len_le (a b : List Nt) (n : Nat) : (onL a b n).length ≤ n := by
  unfold onL
  rw [List.length_map]
  refine Nat.le_trans (List.length_filter_le _ _) ?_
  rw [List.length_range]
  exact Nat.le_refl _
theorem mt_len0 (a b : List Nt) : (mtL a b).length ≤ 46080 := by
  unfold mtL
  split
  · rename_i h
    unfold bvB at h
    rw [Bool.and_eq_true] at h
    have h1 := sum_all16 h.1
    have h2 := sum_all16 h.2
    refine Nat.le_trans (onL_len_le a b _) ?_
    unfold moZ
    omega
  · simp

/- There are not more ticks than notes. -/
theorem cnt_or16 (p q : Nat → Bool) : ∀ l : List Nat, (l.filter fun t => p t || q t).length ≤ (l.filter p).length + (l.filter q).length
  | [] => by simp
  | x :: l => by
    have ih := cnt_or16 p q l
    cases hp : p x <;> cases hq : q x <;> simp [hp, hq] <;> omega
theorem cnt_one16 (e : Int) : ∀ n : Nat, ((List.range n).filter fun (t : Nat) => e == (t : Int)).length ≤ if 0 ≤ e ∧ e < n then 1 else 0
  | 0 => by simp
  | n + 1 => by
    have ih := cnt_one16 e n
    rw [List.range_succ, List.filter_append, List.length_append]
    by_cases h : e = (n : Int)
    · subst h
      rw [if_neg (by omega)] at ih
      rw [if_pos (by omega)]
      simp
      simpa using ih
    · have h2 : ([n].filter fun (t : Nat) => e == (t : Int)) = [] := by
        rw [List.filter_cons_of_neg (by simpa using h)]; rfl
      rw [h2, List.length_nil, Nat.add_zero]
      refine Nat.le_trans ih ?_
      split <;> split <;> omega
/-- A tick of the first k beginnings. -/
def onK (v : List Nt) (k : Nat) (t : Int) : Bool := (List.range k).any fun j => sumT (v.take (j + 1)) == t
theorem onK_up (v : List Nt) (k : Nat) (t : Int) : onK v (k + 1) t = (onK v k t || sumT (v.take (k + 1)) == t) := by
  unfold onK
  rw [List.range_succ, List.any_append]
  simp
theorem cnt_on16 (v : List Nt) (n : Nat) : ∀ k, ((List.range n).filter fun (t : Nat) => onK v k (t : Int)).length ≤ ((List.range k).filter fun j => decide (sumT (v.take (j + 1)) < (n : Int))).length
  | 0 => by simp [onK]
  | k + 1 => by
    have ih := cnt_on16 v n k
    have h1 := cnt_or16 (fun (t : Nat) => onK v k (t : Int)) (fun (t : Nat) => sumT (v.take (k + 1)) == (t : Int)) (List.range n)
    have h2 := cnt_one16 (sumT (v.take (k + 1))) n
    have e : (List.range n).filter (fun (t : Nat) => onK v (k + 1) (t : Int)) = (List.range n).filter fun (t : Nat) => onK v k (t : Int) || sumT (v.take (k + 1)) == (t : Int) := by
      refine List.filter_congr fun t _ => ?_
      rw [onK_up]
    rw [e, List.range_succ, List.filter_append, List.length_append]
    by_cases h : sumT (v.take (k + 1)) < (n : Int)
    · have h3 : ([k].filter fun j => decide (sumT (v.take (j + 1)) < (n : Int))).length = 1 := by
        rw [List.filter_cons_of_pos (by simpa using h)]; rfl
      rw [h3]
      have h4 : (if 0 ≤ sumT (v.take (k + 1)) ∧ sumT (v.take (k + 1)) < (n : Int) then 1 else 0) ≤ 1 := by split <;> omega
      omega
    · rw [if_neg (by omega)] at h2
      omega
theorem cnt_few16 {v : List Nt} (n : Nat) (h : ¬ sumT v < (n : Int)) (h0 : 0 < v.length) : ((List.range v.length).filter fun j => decide (sumT (v.take (j + 1)) < (n : Int))).length + 1 ≤ v.length := by
  obtain ⟨m, hm⟩ : ∃ m, v.length = m + 1 := ⟨v.length - 1, by omega⟩
  rw [hm, List.range_succ, List.filter_append, List.filter_cons_of_neg (a := m) (by rw [← hm, List.take_length]; simpa using h)]
  have := List.length_filter_le (fun j => decide (sumT (v.take (j + 1)) < (n : Int))) (List.range m)
  rw [List.length_range] at this
  simp
  exact this
theorem onB_K {v : List Nt} {t : Int} (h0 : 0 < t) : onB v t = onK v v.length t := by
  rw [Bool.eq_iff_iff, onB_iff]
  unfold onK
  rw [List.any_eq_true]
  constructor
  · rintro ⟨k, hk, h⟩
    cases k with
    | zero => rw [sum_zero16] at h; omega
    | succ k => exact ⟨k, List.mem_range.2 (by omega), by simpa using h⟩
  · rintro ⟨k, hk, h⟩
    have := List.mem_range.1 hk
    exact ⟨k + 1, by omega, by simpa using h⟩
theorem mt_len (a b : List Nt) : (mtL a b).length ≤ a.length + b.length := by
  unfold mtL
  split
  · rename_i h
    unfold bvB at h
    rw [Bool.and_eq_true] at h
    obtain ⟨ha, hb⟩ := h
    have ha2 := sum_all16 ha
    have hb2 := sum_all16 hb
    obtain ⟨M, hM⟩ : ∃ M, moZ a b = M := ⟨_, rfl⟩
    have hMe : (M : Int) = max (sumT a) (sumT b) := by rw [← hM]; unfold moZ; omega
    rw [hM]
    cases M with
    | zero => rw [onL_zero]; exact Nat.zero_le _
    | succ m =>
      unfold onL
      rw [List.length_map, List.range_succ_eq_map, List.filter_cons]
      have h1 : ((List.range m).map Nat.succ).filter (fun (t : Nat) => onB a (t : Int) || onB b (t : Int)) = ((List.range m).map Nat.succ).filter (fun (t : Nat) => onK a a.length (t : Int) || onK b b.length (t : Int)) := by
        refine List.filter_congr fun t ht => ?_
        obtain ⟨s, _, rfl⟩ := List.mem_map.1 ht
        rw [onB_K (by omega), onB_K (by omega)]
      have h2 := cnt_or16 (fun (t : Nat) => onK a a.length (t : Int)) (fun (t : Nat) => onK b b.length (t : Int)) ((List.range m).map Nat.succ)
      have hs : ∀ p : Nat → Bool, (((List.range m).map Nat.succ).filter p).length ≤ ((List.range (m + 1)).filter p).length := fun p => by
        rw [List.range_succ_eq_map, List.filter_cons]
        split
        · rw [List.length_cons]; omega
        · exact Nat.le_refl _
      have h3 := hs fun (t : Nat) => onK a a.length (t : Int)
      have h4 := hs fun (t : Nat) => onK b b.length (t : Int)
      have h5 := cnt_on16 a (m + 1) a.length
      have h6 := cnt_on16 b (m + 1) b.length
      have h7 : ((List.range a.length).filter fun j => decide (sumT (a.take (j + 1)) < ((m + 1 : Nat) : Int))).length ≤ a.length := by
        refine Nat.le_trans (List.length_filter_le _ _) ?_
        rw [List.length_range]
        exact Nat.le_refl _
      have h8 : ((List.range b.length).filter fun j => decide (sumT (b.take (j + 1)) < ((m + 1 : Nat) : Int))).length ≤ b.length := by
        refine Nat.le_trans (List.length_filter_le _ _) ?_
        rw [List.length_range]
        exact Nat.le_refl _
      have h9 : ((List.range a.length).filter fun j => decide (sumT (a.take (j + 1)) < ((m + 1 : Nat) : Int))).length + ((List.range b.length).filter fun j => decide (sumT (b.take (j + 1)) < ((m + 1 : Nat) : Int))).length + 1 ≤ a.length + b.length := by
        rcases Int.le_total (sumT a) (sumT b) with g | g
        · have hl : 0 < b.length := by
            cases b with
            | nil => simp [sumT] at g hMe ⊢; omega
            | cons x l => simp
          have := cnt_few16 (v := b) (m + 1) (by omega) hl
          omega
        · have hl : 0 < a.length := by
            cases a with
            | nil => simp [sumT] at g hMe ⊢; omega
            | cons x l => simp
          have := cnt_few16 (v := a) (m + 1) (by omega) hl
          omega
      rw [h1]
      split
      · rw [List.length_cons]; omega
      · omega
  · simp
end Go.Proofs.YtmkhpafcgobfhaaDoor
