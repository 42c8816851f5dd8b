/- Plain facts for chapter 15: the table of how many good ends begin with a tone, filled from the end; the line with a number, tone by tone. -/
import Derived.Test.YtieoobanpllmgaaDoorPure14
namespace Go.Proofs.YtieoobanpllmgaaDoor
set_option linter.unusedSimpArgs false
set_option linter.unusedVariables false
set_option maxRecDepth 8000

/- A row that is filled from the left. -/
def frL (R : List Int) (i : Nat) : List Int := R.take i ++ List.replicate (R.length - i) 0
theorem fr_zero (R : List Int) : frL R 0 = List.replicate R.length 0 := by simp [frL]
theorem fr_full (R : List Int) : frL R R.length = R := by simp [frL]
theorem fr_len {R : List Int} {i : Nat} (h : i ≤ R.length) : (frL R i).length = R.length := by
  simp [frL]; omega
theorem fr_at {R : List Int} {i : Nat} (h : i < R.length) : (frL R i)[i]? = some 0 := by
  have h1 : (R.take i).length = i := by simp; omega
  unfold frL
  rw [List.getElem?_append_right (by omega), h1, Nat.sub_self, List.getElem?_replicate, if_pos (by omega)]
theorem fr_set {R : List Int} {i : Nat} {z : Int} (h : R[i]? = some z) : (frL R i).set i z = frL R (i + 1) := by
  have hi := (List.getElem?_eq_some_iff.1 h).1
  have h1 : (R.take i).length = i := by simp; omega
  unfold frL
  rw [List.set_append, if_neg (by omega), h1, Nat.sub_self, show R.length - i = (R.length - (i + 1)) + 1 by omega, List.replicate_succ, List.set_cons_zero, List.take_add_one, h]
  simp
theorem fr_same {R : List Int} {i : Nat} (h : R[i]? = some 0) : frL R i = frL R (i + 1) := by
  have hi := (List.getElem?_eq_some_iff.1 h).1
  rw [← fr_set h]
  refine (List.ext_getElem? fun j => ?_).symm
  by_cases hj : i = j
  · subst hj
    rw [List.getElem?_set_self (by rw [fr_len (by omega)]; exact hi), fr_at hi]
  · rw [List.getElem?_set_ne hj]
theorem fr_put {R : List Int} {i : Nat} {z : Int} (h : i < R.length) : ((frL R i).set i z)[i]? = some z := by
  rw [List.getElem?_set_self (by rw [fr_len (by omega)]; exact h)]

/- The table. -/
/-- How many good ends begin with tone p over tone k of the cantus. -/
def cnK (T : List Pt) (f : Int) (c : List Pt) (k : Nat) (p : Pt) : Nat := cnN T f c.length (k : Int) (c.drop k) p
/-- Row k. -/
def tbR (T : List Pt) (f : Int) (c : List Pt) (k : Nat) : List Int := T.map fun p => (cnK T f c k p : Int)
/-- The table with the rows from k on. -/
def tbN (T : List Pt) (f : Int) (c : List Pt) (k : Nat) : List (List Int) := (List.range c.length).map fun r => if k ≤ r then tbR T f c r else List.replicate T.length 0
theorem tbR_len (T : List Pt) (f : Int) (c : List Pt) (k : Nat) : (tbR T f c k).length = T.length := by simp [tbR]
theorem tbR_at {T : List Pt} {f : Int} {c : List Pt} {k i : Nat} {p : Pt} (h : T[i]? = some p) : (tbR T f c k)[i]? = some (cnK T f c k p : Int) := by
  unfold tbR; rw [List.getElem?_map, h]; rfl
theorem tbN_len (T : List Pt) (f : Int) (c : List Pt) (k : Nat) : (tbN T f c k).length = c.length := by simp [tbN]
theorem tbN_at {T : List Pt} {f : Int} {c : List Pt} {k r : Nat} (h : r < c.length) (hk : k ≤ r) : (tbN T f c k)[r]? = some (tbR T f c r) := by
  unfold tbN; rw [List.getElem?_map, List.getElem?_range h]; simp [hk]
theorem tbN_no {T : List Pt} {f : Int} {c : List Pt} {k r : Nat} (h : r < c.length) (hk : r < k) : (tbN T f c k)[r]? = some (List.replicate T.length 0) := by
  unfold tbN; rw [List.getElem?_map, List.getElem?_range h]; simp [Nat.not_le.2 hk]
theorem tbN_start (T : List Pt) (f : Int) (c : List Pt) : tbN T f c c.length = List.replicate c.length (List.replicate T.length 0) := by
  refine List.ext_getElem? fun r => ?_
  by_cases h : r < c.length
  · rw [tbN_no h h, List.getElem?_replicate, if_pos h]
  · rw [List.getElem?_eq_none (by rw [tbN_len]; omega), List.getElem?_eq_none (by simp; omega)]
theorem tbN_set {T : List Pt} {f : Int} {c : List Pt} {k : Nat} (h : k < c.length) : (tbN T f c (k + 1)).set k (tbR T f c k) = tbN T f c k := by
  refine List.ext_getElem? fun r => ?_
  by_cases hr : k = r
  · subst hr
    rw [List.getElem?_set_self (by rw [tbN_len]; exact h), tbN_at h (Nat.le_refl _)]
  · rw [List.getElem?_set_ne hr]
    by_cases h2 : r < c.length
    · by_cases h3 : k + 1 ≤ r
      · rw [tbN_at h2 h3, tbN_at h2 (by omega)]
      · rw [tbN_no h2 (by omega), tbN_no h2 (by omega)]
    · rw [List.getElem?_eq_none (by rw [tbN_len]; omega), List.getElem?_eq_none (by rw [tbN_len]; omega)]
theorem drop_at15 {c : List Pt} {k : Nat} {x : Pt} (h : c[k]? = some x) : c.drop k = x :: c.drop (k + 1) := by
  obtain ⟨h1, rfl⟩ := List.getElem?_eq_some_iff.1 h
  exact List.drop_eq_getElem_cons h1
theorem cnK_last {T : List Pt} {f : Int} {c : List Pt} {k : Nat} {x p : Pt} (h : c[k]? = some x) (hk : k + 1 = c.length) : cnK T f c k p = if oneZ f x p k c.length = 0 then 1 else 0 := by
  unfold cnK
  rw [drop_at15 h, List.drop_of_length_le (by omega)]
  rfl
/-- The share of one next tone. -/
def stK (T : List Pt) (f : Int) (c : List Pt) (k : Nat) (x p y q : Pt) : Nat := if twoZ x p y q = 0 then cnK T f c (k + 1) q else 0
/-- The shares of the first j next tones. -/
def psK (T : List Pt) (f : Int) (c : List Pt) (k : Nat) (x p y : Pt) (j : Nat) : Nat := ((T.take j).map (stK T f c k x p y)).sum
theorem cnK_next {T : List Pt} {f : Int} {c : List Pt} {k : Nat} {x y p : Pt} (h : c[k]? = some x) (h2 : c[k + 1]? = some y) : cnK T f c k p = if oneZ f x p k c.length = 0 then psK T f c k x p y T.length else 0 := by
  unfold psK
  rw [List.take_length]
  unfold cnK stK cnK
  rw [drop_at15 h, drop_at15 h2]
  rfl
theorem psK_up {T : List Pt} {f : Int} {c : List Pt} {k : Nat} {x p y q : Pt} {j : Nat} (h : T[j]? = some q) : psK T f c k x p y (j + 1) = psK T f c k x p y j + stK T f c k x p y q := by
  unfold psK
  rw [List.take_add_one, h]
  simp [List.map_append, List.sum_append]
theorem psK_zero (T : List Pt) (f : Int) (c : List Pt) (k : Nat) (x p y : Pt) : psK T f c k x p y 0 = 0 := by simp [psK]
theorem cnK_le {T : List Pt} {f : Int} {c : List Pt} {k : Nat} {p : Pt} (hT : T.length ≤ 63) (hc : c.length ≤ 10) : cnK T f c k p ≤ 63 ^ 9 := by
  unfold cnK
  refine Nat.le_trans (cn_le T f _ hT _ _ _) (Nat.pow_le_pow_right (by omega) ?_)
  rw [List.length_drop]; omega
theorem psK_le {T : List Pt} {f : Int} {c : List Pt} {k : Nat} {x p y : Pt} {j : Nat} (hT : T.length ≤ 63) (hc : c.length ≤ 10) : psK T f c k x p y j ≤ 63 ^ 10 := by
  unfold psK
  refine Nat.le_trans (sum_le _ (63 ^ 9) _ fun q _ => ?_) ?_
  · unfold stK
    split
    · exact cnK_le hT hc
    · exact Nat.zero_le _
  · have : (T.take j).length ≤ 63 := by rw [List.length_take]; omega
    exact Nat.mul_le_mul_right _ this
theorem cnK_num {T : List Pt} {f : Int} {c : List Pt} {k : Nat} {p : Pt} (hT : T.length ≤ 63) (hc : c.length ≤ 10) : (cnK T f c k p : Int) ≤ 15633814156853823 := by
  have := cnK_le (f := f) (c := c) (k := k) (p := p) hT hc
  have e : (63 : Nat) ^ 9 = 15633814156853823 := by decide
  omega
theorem psK_num {T : List Pt} {f : Int} {c : List Pt} {k : Nat} {x p y : Pt} {j : Nat} (hT : T.length ≤ 63) (hc : c.length ≤ 10) : (psK T f c k x p y j : Int) ≤ 984930291881790849 := by
  have := psK_le (f := f) (c := c) (k := k) (x := x) (p := p) (y := y) (j := j) hT hc
  have e : (63 : Nat) ^ 10 = 984930291881790849 := by decide
  omega
/-- The first i tones' shares together. -/
def smK (T : List Pt) (f : Int) (c : List Pt) (i : Nat) : Nat := ((T.take i).map (cnK T f c 0)).sum
theorem smK_up {T : List Pt} {f : Int} {c : List Pt} {i : Nat} {p : Pt} (h : T[i]? = some p) : smK T f c (i + 1) = smK T f c i + cnK T f c 0 p := by
  unfold smK
  rw [List.take_add_one, h]
  simp [List.map_append, List.sum_append]
theorem smK_full (T : List Pt) (f : Int) (c : List Pt) : smK T f c T.length = cnZ T f c := by
  unfold smK cnZ
  rw [List.take_length]
  rfl
theorem smK_num {T : List Pt} {f : Int} {c : List Pt} {i : Nat} (hT : T.length ≤ 63) (hc : c.length ≤ 10) : (smK T f c i : Int) ≤ 984930291881790849 := by
  have : smK T f c i ≤ 63 ^ 10 := by
    unfold smK
    refine Nat.le_trans (sum_le _ (63 ^ 9) _ fun q _ => cnK_le hT hc) ?_
    have : (T.take i).length ≤ 63 := by rw [List.length_take]; omega
    exact Nat.mul_le_mul_right _ this
  have e : (63 : Nat) ^ 10 = 984930291881790849 := by decide
  omega

/- The line with a number. -/
/-- A tone's share at place k, behind tone p. -/
def shK (T : List Pt) (f : Int) (c : List Pt) (k : Nat) (p : Pt) (q : Pt) : Nat :=
  if k = 0 then cnK T f c 0 q else stK T f c (k - 1) (c.getD (k - 1) ⟨0, 0, 0⟩) p (c.getD k ⟨0, 0, 0⟩) q
/-- What is left of the line from place k on. -/
def rsK (T : List Pt) (f : Int) (c : List Pt) (k : Nat) (p : Pt) (j : Nat) : List Pt :=
  if k = 0 then lnL T f c j else lnF T f c.length (k : Int) (c.getD (k - 1) ⟨0, 0, 0⟩) p (c.drop k) j
theorem sh_zero (T : List Pt) (f : Int) (c : List Pt) (p : Pt) : shK T f c 0 p = cnN T f c.length 0 c := by
  funext q; unfold shK; rw [if_pos rfl]; rfl
theorem sh_up {T : List Pt} {f : Int} {c : List Pt} {k : Nat} {p x y : Pt} (h : c[k]? = some x) (h2 : c[k + 1]? = some y) : shK T f c (k + 1) p = shN T f c.length ((k : Int) + 1) x p (y :: c.drop (k + 1 + 1)) := by
  funext q
  unfold shK shN stK cnK
  rw [if_neg (by omega), Nat.add_sub_cancel, List.getD_eq_getElem?_getD, List.getD_eq_getElem?_getD, h, h2, drop_at15 h2]
  rfl
theorem lnF_some {T : List Pt} {f n k : Int} {c p d q : Pt} {r : List Pt} {m j : Nat} (h : pkN (shN T f n k c p (d :: r)) m T = some (q, j)) : lnF T f n k c p (d :: r) m = q :: lnF T f n (k + 1) d q r j := by
  rw [lnF, h]
theorem rs_step {T : List Pt} {f : Int} {c : List Pt} {k : Nat} {p q : Pt} {j i : Nat} (hk : k < c.length) (h : pkN (shK T f c k p) j T = some (q, i)) : rsK T f c k p j = q :: rsK T f c (k + 1) q i := by
  obtain ⟨x, hx⟩ : ∃ x, c[k]? = some x := ⟨_, List.getElem?_eq_getElem hk⟩
  have e : rsK T f c (k + 1) q i = lnF T f c.length ((k : Int) + 1) x q (c.drop (k + 1)) i := by
    unfold rsK
    rw [if_neg (by omega), Nat.add_sub_cancel, List.getD_eq_getElem?_getD, hx]
    rfl
  rw [e]
  cases k with
  | zero =>
    rw [sh_zero] at h
    unfold rsK lnL
    rw [if_pos rfl]
    cases c with
    | nil => simp at hk
    | cons d r =>
      simp at hx
      subst hx
      dsimp only
      rw [h]
      rfl
  | succ k =>
    obtain ⟨x0, hx0⟩ : ∃ x, c[k]? = some x := ⟨_, List.getElem?_eq_getElem (by omega)⟩
    rw [sh_up hx0 hx] at h
    unfold rsK
    rw [if_neg (by omega), Nat.add_sub_cancel, List.getD_eq_getElem?_getD, hx0, drop_at15 hx]
    exact lnF_some h
theorem rs_end {T : List Pt} {f : Int} {c : List Pt} {p : Pt} {j : Nat} (h : c ≠ []) : rsK T f c c.length p j = [] := by
  unfold rsK
  rw [if_neg (by have := List.length_pos_iff.2 h; omega), List.drop_of_length_le (Nat.le_refl _)]
  rfl
theorem sh_next {T : List Pt} {f : Int} {c : List Pt} {k : Nat} {p q : Pt} {i : Nat} (hk : k + 1 < c.length) (h : i < shK T f c k p q) : i < (T.map (shK T f c (k + 1) q)).sum := by
  obtain ⟨x, hx⟩ : ∃ x, c[k]? = some x := ⟨_, List.getElem?_eq_getElem (by omega)⟩
  obtain ⟨y, hy⟩ : ∃ y, c[k + 1]? = some y := ⟨_, List.getElem?_eq_getElem hk⟩
  have h1 : i < cnN T f c.length (k : Int) (x :: y :: c.drop (k + 1 + 1)) q := by
    have e : ∀ z, cnK T f c k z = cnN T f c.length (k : Int) (x :: y :: c.drop (k + 1 + 1)) z := fun z => by unfold cnK; rw [drop_at15 hx, drop_at15 hy]
    rw [← e]
    unfold shK at h
    split at h
    · rename_i h0; subst h0; exact h
    · unfold stK at h
      split at h
      · rwa [show k - 1 + 1 = k by omega] at h
      · omega
  have h2 := cn_next h1
  rw [sh_up hx hy]
  exact h2
/-- The search for the tone goes on behind tone i. -/
theorem pk_step {g : Pt → Nat} {T : List Pt} {i j : Nat} {q : Pt} (h : T[i]? = some q) : pkN g j (T.drop i) = if j < g q then some (q, j) else pkN g (j - g q) (T.drop (i + 1)) := by
  rw [drop_at15 h]; rfl
theorem pk_sum {g : Pt → Nat} {T : List Pt} {i j : Nat} {q : Pt} (h : T[i]? = some q) (hj : j < ((T.drop i).map g).sum) (hq : ¬ j < g q) : j - g q < ((T.drop (i + 1)).map g).sum := by
  rw [drop_at15 h, List.map_cons, List.sum_cons] at hj
  omega
theorem cnK_zero (T : List Pt) (f : Int) (c : List Pt) : cnZ T f c = (T.map (shK T f c 0 ⟨0, 0, 0⟩)).sum := by
  unfold cnZ
  rw [sh_zero]
end Go.Proofs.YtieoobanpllmgaaDoor
