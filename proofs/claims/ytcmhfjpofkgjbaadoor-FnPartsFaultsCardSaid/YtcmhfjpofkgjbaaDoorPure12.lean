/- Plain facts for chapter 12: faults of chords of four voices, of ways, of parts. -/
import Derived.Test.YtcmhfjpofkgjbaaDoorPure10
namespace Go.Proofs.YtcmhfjpofkgjbaaDoor
set_option linter.unusedSimpArgs false
set_option linter.unusedVariables false
set_option maxRecDepth 8000

theorem key_bd12 {s a o : Int} (hv : pvB s a o = true) : -2 ≤ keyZ s a o ∧ keyZ s a o ≤ 109 := by
  obtain ⟨⟨h1, h2⟩, ⟨h3, h4⟩, ⟨h5, h6⟩⟩ := pvB_iff.1 hv
  have := halZ_bd s
  rw [keyZ, if_pos hv, natZ_os h1 h2]
  omega
/-- The key of voice i. -/
def k4 (l : List Pt) (i : Nat) : Int := kyP (l.getD i ⟨0, 0, 0⟩)
theorem k4_at {l : List Pt} {i : Nat} {x : Pt} (h : l[i]? = some x) : k4 l i = kyP x := by unfold k4; rw [getD_of h]
/-- Four valid voices. -/
def vo4 (l : List Pt) : Bool := l.all pvP && decide (l.length = 4)
theorem vo4_iff {l : List Pt} : vo4 l = true ↔ (∀ x ∈ l, pvP x = true) ∧ l.length = 4 := by simp [vo4]
theorem k4_bd {l : List Pt} (h : vo4 l = true) {i : Nat} (hi : i < 4) : -2 ≤ k4 l i ∧ k4 l i ≤ 109 := by
  obtain ⟨h1, h2⟩ := vo4_iff.1 h
  obtain ⟨x, hx⟩ : ∃ x, l[i]? = some x := ⟨_, List.getElem?_eq_getElem (by omega)⟩
  rw [k4_at hx]
  exact key_bd12 (h1 x (List.mem_of_getElem? hx))
def loZ (i : Nat) : Int := if i = 0 then 28 else if i = 1 then 36 else if i = 2 then 43 else 48
def hiZ (i : Nat) : Int := if i = 0 then 48 else if i = 1 then 55 else if i = 2 then 62 else 67
/-- Voices that cross; that are too far apart; that leave their range. -/
def crP (l : List Pt) : Prop := ∃ i, i < 3 ∧ k4 l (i + 1) < k4 l i
def faP (l : List Pt) : Prop := ∃ i, 1 ≤ i ∧ i < 3 ∧ 12 < k4 l (i + 1) - k4 l i
def raP (l : List Pt) : Prop := ∃ i, i < 4 ∧ (k4 l i < loZ i ∨ hiZ i < k4 l i)
open Classical in
/-- What StackFault answers. -/
noncomputable def stZ (l : List Pt) : Int := if vo4 l = true then (if crP l then 2 else if faP l then 3 else if raP l then 4 else 0) else 1
theorem st_voices {l : List Pt} (h : vo4 l = false) : stZ l = 1 := by unfold stZ; rw [if_neg (by rw [h]; exact Bool.false_ne_true)]
theorem st_cross {l : List Pt} (h : vo4 l = true) (h1 : crP l) : stZ l = 2 := by unfold stZ; rw [if_pos h, if_pos h1]
theorem st_far {l : List Pt} (h : vo4 l = true) (h1 : ¬ crP l) (h2 : faP l) : stZ l = 3 := by unfold stZ; rw [if_pos h, if_neg h1, if_pos h2]
theorem st_range {l : List Pt} (h : vo4 l = true) (h1 : ¬ crP l) (h2 : ¬ faP l) (h3 : raP l) : stZ l = 4 := by unfold stZ; rw [if_pos h, if_neg h1, if_neg h2, if_pos h3]
theorem st_none {l : List Pt} (h : vo4 l = true) (h1 : ¬ crP l) (h2 : ¬ faP l) (h3 : ¬ raP l) : stZ l = 0 := by unfold stZ; rw [if_pos h, if_neg h1, if_neg h2, if_neg h3]
theorem st_bd (l : List Pt) : 0 ≤ stZ l ∧ stZ l ≤ 4 := by unfold stZ; (repeat' split) <;> omega
theorem st_zero {l : List Pt} (h : stZ l = 0) : vo4 l = true ∧ ¬ crP l ∧ ¬ faP l ∧ ¬ raP l := by
  unfold stZ at h
  split at h
  · rename_i h0
    split at h
    · omega
    · rename_i h1
      split at h
      · omega
      · rename_i h2
        split at h
        · omega
        · rename_i h3
          exact ⟨h0, h1, h2, h3⟩
  · omega
/-- Without a fault: four voices that don't descend, from 28 to 67; with a voice less there is a fault. -/
theorem st_good {l : List Pt} (h : stZ l = 0) : l.length = 4 ∧ (∀ i, i < 4 → 28 ≤ k4 l i ∧ k4 l i ≤ 67) ∧ (∀ i, i < 3 → k4 l i ≤ k4 l (i + 1)) ∧ stZ (l.drop 1) = 1 := by
  obtain ⟨h0, h1, _, h3⟩ := st_zero h
  obtain ⟨h4, h5⟩ := vo4_iff.1 h0
  refine ⟨h5, fun i hi => ?_, fun i hi => ?_, st_voices ?_⟩
  · have : ¬ (k4 l i < loZ i ∨ hiZ i < k4 l i) := fun hc => h3 ⟨i, hi, hc⟩
    have e1 : 28 ≤ loZ i := by unfold loZ; (repeat' split) <;> omega
    have e2 : hiZ i ≤ 67 := by unfold hiZ; (repeat' split) <;> omega
    omega
  · have : ¬ k4 l (i + 1) < k4 l i := fun hc => h1 ⟨i, hi, hc⟩
    omega
  · rw [← Bool.not_eq_true, vo4_iff]
    rintro ⟨_, hc⟩
    rw [List.length_drop] at hc
    omega

/- Ways. -/
/-- Voices i and j move in parallels, x half tones apart. -/
def paP (a b : List Pt) (x : Int) (i j : Nat) : Prop := 0 < (k4 b i - k4 a i) * (k4 b j - k4 a j) ∧ (k4 a j - k4 a i + 120) % 12 = x ∧ (k4 b j - k4 b i + 120) % 12 = x
def prP (a b : List Pt) (x : Int) : Prop := ∃ i j, i < j ∧ j < 4 ∧ paP a b x i j
def leP (a b : List Pt) : Prop := ∃ i, i < 4 ∧ (12 < k4 b i - k4 a i ∨ 12 < k4 a i - k4 b i)
open Classical in
/-- What MoveFault answers. -/
noncomputable def mvZ (a b : List Pt) : Int := if vo4 a = true ∧ vo4 b = true then (if prP a b 7 then 5 else if prP a b 0 then 6 else if leP a b then 7 else 0) else 1
theorem mv_voices {a b : List Pt} (h : ¬ (vo4 a = true ∧ vo4 b = true)) : mvZ a b = 1 := by unfold mvZ; rw [if_neg h]
theorem mv_fifths {a b : List Pt} (h : vo4 a = true ∧ vo4 b = true) (h1 : prP a b 7) : mvZ a b = 5 := by unfold mvZ; rw [if_pos h, if_pos h1]
theorem mv_octaves {a b : List Pt} (h : vo4 a = true ∧ vo4 b = true) (h1 : ¬ prP a b 7) (h2 : prP a b 0) : mvZ a b = 6 := by unfold mvZ; rw [if_pos h, if_neg h1, if_pos h2]
theorem mv_leap {a b : List Pt} (h : vo4 a = true ∧ vo4 b = true) (h1 : ¬ prP a b 7) (h2 : ¬ prP a b 0) (h3 : leP a b) : mvZ a b = 7 := by unfold mvZ; rw [if_pos h, if_neg h1, if_neg h2, if_pos h3]
theorem mv_none {a b : List Pt} (h : vo4 a = true ∧ vo4 b = true) (h1 : ¬ prP a b 7) (h2 : ¬ prP a b 0) (h3 : ¬ leP a b) : mvZ a b = 0 := by unfold mvZ; rw [if_pos h, if_neg h1, if_neg h2, if_neg h3]
theorem mv_cases (a b : List Pt) : mvZ a b = 1 ∧ ¬ (vo4 a = true ∧ vo4 b = true) ∨ (vo4 a = true ∧ vo4 b = true) ∧ (mvZ a b = 0 ∨ 5 ≤ mvZ a b ∧ mvZ a b ≤ 7) := by
  unfold mvZ
  split
  · rename_i h
    right
    refine ⟨h, ?_⟩
    (repeat' split) <;> omega
  · rename_i h
    exact Or.inl ⟨rfl, h⟩
theorem pa_back {a b : List Pt} {x : Int} {i j : Nat} (h : paP a b x i j) : paP b a x i j := by
  obtain ⟨h1, h2, h3⟩ := h
  refine ⟨?_, h3, h2⟩
  rw [show (k4 a i - k4 b i) * (k4 a j - k4 b j) = (k4 b i - k4 a i) * (k4 b j - k4 a j) by
    rw [show k4 a i - k4 b i = -(k4 b i - k4 a i) by omega, show k4 a j - k4 b j = -(k4 b j - k4 a j) by omega, Int.neg_mul_neg]]
  exact h1
theorem pr_back {a b : List Pt} {x : Int} : prP a b x ↔ prP b a x :=
  ⟨fun ⟨i, j, h1, h2, h⟩ => ⟨i, j, h1, h2, pa_back h⟩, fun ⟨i, j, h1, h2, h⟩ => ⟨i, j, h1, h2, pa_back h⟩⟩
theorem le_back {a b : List Pt} : leP a b ↔ leP b a :=
  ⟨fun ⟨i, h1, h⟩ => ⟨i, h1, by omega⟩, fun ⟨i, h1, h⟩ => ⟨i, h1, by omega⟩⟩
/-- The way back has the fault of the way. -/
theorem mv_back (a b : List Pt) : mvZ b a = mvZ a b := by
  by_cases h : vo4 a = true ∧ vo4 b = true
  · have h' := And.intro h.2 h.1
    by_cases h1 : prP a b 7
    · rw [mv_fifths h h1, mv_fifths h' (pr_back.1 h1)]
    · have h1' : ¬ prP b a 7 := fun hc => h1 (pr_back.1 hc)
      by_cases h2 : prP a b 0
      · rw [mv_octaves h h1 h2, mv_octaves h' h1' (pr_back.1 h2)]
      · have h2' : ¬ prP b a 0 := fun hc => h2 (pr_back.1 hc)
        by_cases h3 : leP a b
        · rw [mv_leap h h1 h2 h3, mv_leap h' h1' h2' (le_back.1 h3)]
        · rw [mv_none h h1 h2 h3, mv_none h' h1' h2' fun hc => h3 (le_back.1 hc)]
  · rw [mv_voices h, mv_voices fun hc => h ⟨hc.2, hc.1⟩]
/-- Voices that do not move have no fault. -/
theorem mv_self {a : List Pt} (h : vo4 a = true) : mvZ a a = 0 := by
  refine mv_none ⟨h, h⟩ ?_ ?_ ?_
  · rintro ⟨i, j, _, _, h1, _⟩
    rw [Int.sub_self, Int.zero_mul] at h1
    omega
  · rintro ⟨i, j, _, _, h1, _⟩
    rw [Int.sub_self, Int.zero_mul] at h1
    omega
  · rintro ⟨i, _, h1⟩
    omega
theorem mul_bd {x y : Int} (x0 : -200 ≤ x) (x1 : x ≤ 200) (y0 : -200 ≤ y) (y1 : y ≤ 200) : -40000 ≤ x * y ∧ x * y ≤ 40000 := by
  have h1 := Int.mul_nonneg (show 0 ≤ x + 200 by omega) (show 0 ≤ y + 200 by omega)
  have h2 := Int.mul_nonneg (show 0 ≤ 200 - x by omega) (show 0 ≤ 200 - y by omega)
  have h3 := Int.mul_nonneg (show 0 ≤ x + 200 by omega) (show 0 ≤ 200 - y by omega)
  have h4 := Int.mul_nonneg (show 0 ≤ 200 - x by omega) (show 0 ≤ y + 200 by omega)
  rw [Int.add_mul, Int.mul_add, Int.mul_add] at h1
  rw [Int.sub_mul, Int.mul_sub, Int.mul_sub] at h2
  rw [Int.add_mul, Int.mul_sub, Int.mul_sub] at h3
  rw [Int.sub_mul, Int.mul_add, Int.mul_add] at h4
  constructor <;> omega

/- Parts. -/
/-- The faults of chord k, with its number. -/
noncomputable def faL (ll : List (List Pt)) (k : Nat) : List (Int × Int) :=
  (if stZ (ll.getD k []) = 0 then [] else [((k : Int), stZ (ll.getD k []))]) ++ (if k = 0 then [] else if mvZ (ll.getD (k - 1) []) (ll.getD k []) = 0 then [] else [((k : Int), mvZ (ll.getD (k - 1) []) (ll.getD k []))])
noncomputable def paF (ll : List (List Pt)) (n : Nat) : List (Int × Int) := (List.range n).flatMap (faL ll)
theorem paF_up (ll : List (List Pt)) (n : Nat) : paF ll (n + 1) = paF ll n ++ faL ll n := by
  unfold paF
  rw [List.range_succ, List.flatMap_append]
  simp
/-- What PartsFaults answers. -/
noncomputable def paZ (ll : List (List Pt)) : List (Int × Int) := if ll.length ≤ 8 then paF ll ll.length else []
theorem faL_of {ll : List (List Pt)} {k : Nat} {p : Int × Int} (h : p ∈ faL ll k) : p.1 = k ∧ 1 ≤ p.2 ∧ p.2 ≤ 7 := by
  unfold faL at h
  rcases List.mem_append.1 h with h | h
  · split at h
    · cases h
    · obtain rfl := List.mem_singleton.1 h
      have := st_bd (ll.getD k [])
      rename_i h0
      exact ⟨rfl, by dsimp only; omega, by dsimp only; omega⟩
  · split at h
    · cases h
    · split at h
      · cases h
      · obtain rfl := List.mem_singleton.1 h
        rename_i h1 h0
        refine ⟨rfl, ?_⟩
        rcases mv_cases (ll.getD (k - 1) []) (ll.getD k []) with ⟨e, _⟩ | ⟨_, e | e⟩ <;> (dsimp only; omega)
theorem paF_mem {ll : List (List Pt)} {n : Nat} {p : Int × Int} (h : p ∈ paF ll n) : 0 ≤ p.1 ∧ p.1 < n ∧ 1 ≤ p.2 ∧ p.2 ≤ 7 := by
  unfold paF at h
  obtain ⟨k, hk, hp⟩ := List.mem_flatMap.1 h
  have := List.mem_range.1 hk
  have := faL_of hp
  omega
theorem faL_len (ll : List (List Pt)) (k : Nat) : (faL ll k).length ≤ 2 := by
  unfold faL
  rw [List.length_append]
  have h1 : (if stZ (ll.getD k []) = 0 then ([] : List (Int × Int)) else [((k : Int), stZ (ll.getD k []))]).length ≤ 1 := by split <;> simp
  have h2 : (if k = 0 then ([] : List (Int × Int)) else if mvZ (ll.getD (k - 1) []) (ll.getD k []) = 0 then [] else [((k : Int), mvZ (ll.getD (k - 1) []) (ll.getD k []))]).length ≤ 1 := by (repeat' split) <;> simp
  omega
theorem paF_len (ll : List (List Pt)) : ∀ n, (paF ll n).length ≤ 2 * n
  | 0 => by simp [paF]
  | n + 1 => by
    rw [paF_up, List.length_append]
    have := faL_len ll n
    have := paF_len ll n
    omega
/-- The numbers do not descend. -/
theorem paF_up2 (ll : List (List Pt)) : ∀ n, (paF ll n).Pairwise fun p q => p.1 ≤ q.1
  | 0 => by unfold paF; exact List.Pairwise.nil
  | n + 1 => by
    rw [paF_up, List.pairwise_append]
    refine ⟨paF_up2 ll n, ?_, fun p hp q hq => ?_⟩
    · refine List.pairwise_iff_getElem.2 fun i j h1 h2 _ => ?_
      have e1 := (faL_of (List.getElem_mem h1)).1
      have e2 := (faL_of (List.getElem_mem h2)).1
      omega
    · have := paF_mem hp
      have := (faL_of hq).1
      omega
theorem pa_up {ll : List (List Pt)} {n i : Nat} {p q : Int × Int} (hp : (paF ll n)[i]? = some p) (hq : (paF ll n)[i + 1]? = some q) : p.1 ≤ q.1 := by
  obtain ⟨h1, e1⟩ := List.getElem?_eq_some_iff.1 hp
  obtain ⟨h2, e2⟩ := List.getElem?_eq_some_iff.1 hq
  have := List.pairwise_iff_getElem.1 (paF_up2 ll n) i (i + 1) h1 h2 (by omega)
  rwa [e1, e2] at this
end Go.Proofs.YtcmhfjpofkgjbaaDoor
