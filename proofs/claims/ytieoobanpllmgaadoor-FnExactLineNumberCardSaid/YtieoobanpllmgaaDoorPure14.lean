/- Plain facts for chapters 14 and 15: lines over a cantus, their faults, and how many lines without a fault there are. -/
import Derived.Test.YtieoobanpllmgaaDoorPure11
namespace Go.Proofs.YtieoobanpllmgaaDoor
set_option linter.unusedSimpArgs false
set_option linter.unusedVariables false
set_option maxRecDepth 8000

/-- The pitch is in the key. -/
def ikP (f : Int) (x : Pt) : Bool := ikB f x.s x.a x.o
theorem ikP_iff {f : Int} {x : Pt} : ikP f x = true ↔ keyB f = true ∧ pvP x = true ∧ x.a = altZ f x.s := by
  unfold ikP ikB pvP
  simp [and_assoc]
/-- What CantusValid answers. -/
def cvB (f : Int) (c : List Pt) : Bool := c.all (ikP f) && (decide (2 ≤ c.length) && decide (c.length ≤ 10)) && keyB f
theorem cvB_iff {f : Int} {c : List Pt} : cvB f c = true ↔ (∀ x ∈ c, ikP f x = true) ∧ 2 ≤ c.length ∧ c.length ≤ 10 ∧ keyB f = true := by
  unfold cvB
  simp [and_assoc]
theorem cvB_no {f : Int} {c : List Pt} {x : Pt} (h : x ∈ c) (hx : ikP f x = false) : cvB f c = false := by
  rw [← Bool.not_eq_true, cvB_iff]
  rintro ⟨h1, _⟩
  rw [h1 x h] at hx
  cases hx
theorem cv_tail {f : Int} {c : List Pt} (h : cvB f c = true) (hl : c.length ≠ 2) : cvB f (c.drop 1) = true := by
  rw [cvB_iff] at h ⊢
  refine ⟨fun x hx => h.1 x (List.mem_of_mem_drop hx), ?_, ?_, h.2.2.2⟩ <;> rw [List.length_drop] <;> omega
theorem cv_bad {f : Int} {x y : Pt} {r : List Pt} (h : cvB f (x :: r) = true) (hy : y = ⟨x.s, x.a + 1, x.o⟩) : cvB f (y :: r) = false := by
  refine cvB_no List.mem_cons_self ?_
  have h1 := ikP_iff.1 ((cvB_iff.1 h).1 x List.mem_cons_self)
  rw [← Bool.not_eq_true, ikP_iff]
  rintro ⟨_, _, h3⟩
  subst hy
  dsimp only at h3
  omega

/- Faults. -/
def dsB (m : Int) : Bool := m == 1 || m == 2 || m == 5 || m == 6 || m == 10 || m == 11
/-- The first fault of a tone over one of the cantus, or 0. -/
def oneZ (f : Int) (c p : Pt) (k n : Int) : Int :=
  if ikP f p = false then 1 else if ¬ (0 ≤ kyP p - kyP c ∧ kyP p - kyP c ≤ 16) then 3
  else if dsB ((kyP p - kyP c) % 12) = true then 2
  else if (k = 0 ∧ (kyP p - kyP c) % 12 ≠ 0 ∧ (kyP p - kyP c) % 12 ≠ 7) ∨ (k = n - 1 ∧ (kyP p - kyP c) % 12 ≠ 0) then 4 else 0
/-- The first fault of the way from one tone to the next one, or 0. -/
def twoZ (c p d q : Pt) : Int :=
  if kyP q - kyP p = 0 then 7 else if 9 < kyP q - kyP p ∨ 9 < kyP p - kyP q then 6
  else if ((kyP p - kyP c) - (kyP q - kyP d)).tmod 12 = 0 ∧ ((kyP p - kyP c + 120).tmod 12 = 0 ∨ (kyP p - kyP c + 120).tmod 12 = 7) then 5 else 0
theorem oneZ_bd (f : Int) (c p : Pt) (k n : Int) : 0 ≤ oneZ f c p k n ∧ oneZ f c p k n ≤ 4 := by
  unfold oneZ
  (repeat' split) <;> omega
theorem twoZ_bd (c p d q : Pt) : twoZ c p d q = 0 ∨ (5 ≤ twoZ c p d q ∧ twoZ c p d q ≤ 7) := by
  unfold twoZ
  (repeat' split) <;> omega
theorem one_in {f : Int} {c p : Pt} {k n : Int} (h : oneZ f c p k n = 0) : ikP f p = true ∧ 0 ≤ kyP p - kyP c ∧ kyP p - kyP c ≤ 16 := by
  unfold oneZ at h
  split at h
  · omega
  · split at h
    · omega
    · rename_i h1 h2
      exact ⟨by simpa using h1, by omega, by omega⟩
/-- The faults of one tone. -/
def lfA (f : Int) (c l : List Pt) (k : Nat) : List (Int × Int) :=
  if oneZ f (c.getD k ⟨0, 0, 0⟩) (l.getD k ⟨0, 0, 0⟩) k l.length = 0 then [] else [((k : Int), oneZ f (c.getD k ⟨0, 0, 0⟩) (l.getD k ⟨0, 0, 0⟩) k l.length)]
def lfB (c l : List Pt) (k : Nat) : List (Int × Int) :=
  if k = 0 then [] else if twoZ (c.getD (k - 1) ⟨0, 0, 0⟩) (l.getD (k - 1) ⟨0, 0, 0⟩) (c.getD k ⟨0, 0, 0⟩) (l.getD k ⟨0, 0, 0⟩) = 0 then [] else [((k : Int), twoZ (c.getD (k - 1) ⟨0, 0, 0⟩) (l.getD (k - 1) ⟨0, 0, 0⟩) (c.getD k ⟨0, 0, 0⟩) (l.getD k ⟨0, 0, 0⟩))]
def lfT (f : Int) (c l : List Pt) (k : Nat) : List (Int × Int) := lfA f c l k ++ lfB c l k
def lfF (f : Int) (c l : List Pt) (n : Nat) : List (Int × Int) := (List.range n).flatMap (lfT f c l)
theorem lfF_up (f : Int) (c l : List Pt) (n : Nat) : lfF f c l (n + 1) = lfF f c l n ++ lfT f c l n := by
  unfold lfF
  rw [List.range_succ, List.flatMap_append]
  simp
def lfC (f : Int) (c l : List Pt) : Bool := cvB f c && decide (l.length = c.length) && l.all pvP
theorem lfC_iff {f : Int} {c l : List Pt} : lfC f c l = true ↔ cvB f c = true ∧ l.length = c.length ∧ ∀ x ∈ l, pvP x = true := by
  unfold lfC
  simp [and_assoc]
/-- What LineFaults answers. -/
def lfZ (f : Int) (c l : List Pt) : List (Int × Int) := if lfC f c l = true then lfF f c l l.length else []
/-- What LineGood answers. -/
def lgB (f : Int) (c l : List Pt) : Bool := lfC f c l && (lfZ f c l).isEmpty
theorem lfT_of {f : Int} {c l : List Pt} {k : Nat} {p : Int × Int} (h : p ∈ lfT f c l k) : p.1 = k ∧ 1 ≤ p.2 ∧ p.2 ≤ 7 := by
  unfold lfT lfA lfB at h
  have h1 := oneZ_bd f (c.getD k ⟨0, 0, 0⟩) (l.getD k ⟨0, 0, 0⟩) k l.length
  have h2 := twoZ_bd (c.getD (k - 1) ⟨0, 0, 0⟩) (l.getD (k - 1) ⟨0, 0, 0⟩) (c.getD k ⟨0, 0, 0⟩) (l.getD k ⟨0, 0, 0⟩)
  rcases List.mem_append.1 h with h | h
  · split at h
    · cases h
    · obtain rfl := List.mem_singleton.1 h
      dsimp only
      omega
  · split at h
    · cases h
    · split at h
      · cases h
      · obtain rfl := List.mem_singleton.1 h
        dsimp only
        omega
theorem lfT_len (f : Int) (c l : List Pt) (k : Nat) : (lfT f c l k).length ≤ 2 := by
  unfold lfT lfA lfB
  rw [List.length_append]
  (repeat' split) <;> simp
theorem lfF_len (f : Int) (c l : List Pt) : ∀ n, (lfF f c l n).length ≤ 2 * n
  | 0 => by simp [lfF]
  | n + 1 => by
    have := lfF_len f c l n
    have := lfT_len f c l n
    rw [lfF_up, List.length_append]
    omega
theorem lfF_mem {f : Int} {c l : List Pt} {p : Int × Int} : ∀ {n : Nat}, p ∈ lfF f c l n → 0 ≤ p.1 ∧ p.1 < n ∧ 1 ≤ p.2 ∧ p.2 ≤ 7
  | n, h => by
    unfold lfF at h
    obtain ⟨k, hk, hp⟩ := List.mem_flatMap.1 h
    have := List.mem_range.1 hk
    have := lfT_of hp
    omega
/-- The numbers of the tones do not descend. -/
theorem lfF_sorted (f : Int) (c l : List Pt) : ∀ n, (lfF f c l n).Pairwise fun p q => p.1 ≤ q.1
  | 0 => by simp [lfF]
  | n + 1 => by
    rw [lfF_up]
    refine List.pairwise_append.2 ⟨lfF_sorted f c l n, ?_, fun p hp q hq => ?_⟩
    · refine List.Pairwise.imp_of_mem (R := fun _ _ => True) (fun {a b} ha hb _ => ?_) (by simp [List.pairwise_iff_getElem])
      rw [(lfT_of ha).1, (lfT_of hb).1]
      exact Int.le_refl _
    · have := lfF_mem hp
      have := lfT_of hq
      omega
theorem lfZ_facts (f : Int) (c l : List Pt) : (lfZ f c l).length ≤ 2 * l.length ∧ (∀ p ∈ lfZ f c l, 1 ≤ p.2 ∧ p.2 ≤ 7) ∧ ∀ (k : Nat) (p q : Int × Int), (lfZ f c l)[k]? = some p → (lfZ f c l)[k + 1]? = some q → p.1 ≤ q.1 := by
  unfold lfZ
  split
  · refine ⟨lfF_len f c l _, fun p hp => (lfF_mem hp).2.2, fun k p q hp hq => ?_⟩
    obtain ⟨h1, rfl⟩ := List.getElem?_eq_some_iff.1 hp
    obtain ⟨h2, rfl⟩ := List.getElem?_eq_some_iff.1 hq
    exact List.pairwise_iff_getElem.1 (lfF_sorted f c l _) k (k + 1) h1 h2 (by omega)
  · simp
theorem lg_is {f : Int} {c l : List Pt} (h : lgB f c l = true) : lfC f c l = true ∧ lfZ f c l = [] := by
  unfold lgB at h
  simp at h
  exact h
theorem lg_tone {f : Int} {c l : List Pt} (h : lgB f c l = true) {k : Nat} {x y : Pt} (hx : l[k]? = some x) (hy : c[k]? = some y) : ikP f x = true ∧ 0 ≤ kyP x - kyP y ∧ kyP x - kyP y ≤ 16 := by
  obtain ⟨h1, h2⟩ := lg_is h
  unfold lfZ at h2
  rw [if_pos h1] at h2
  have hk := (List.getElem?_eq_some_iff.1 hx).1
  have h3 : lfT f c l k = [] := List.flatMap_eq_nil_iff.1 h2 k (List.mem_range.2 hk)
  have h4 : lfA f c l k = [] := (List.append_eq_nil_iff.1 h3).1
  unfold lfA at h4
  rw [List.getD_eq_getElem?_getD, List.getD_eq_getElem?_getD, hx, hy] at h4
  split at h4
  · rename_i h5
    exact one_in h5
  · cases h4

/- Tones of a key. -/
/-- The pitch of a key at a place. -/
def tnP (f : Int) (p : Nat) : Pt := ⟨(p : Int) % 7, altZ f ((p : Int) % 7), (p : Int) / 7⟩
def tkL (f key : Int) : List Pt := (List.range 63).flatMap fun p => if kyP (tnP f p) = key then [tnP f p] else []
/-- The tones of m keys from one on. -/
def tnL (f lo : Int) (m : Nat) : List Pt := (List.range m).flatMap fun (i : Nat) => tkL f (lo + (i : Int))
theorem tnL_up (f lo : Int) (m : Nat) : tnL f lo (m + 1) = tnL f lo m ++ tkL f (lo + (m : Int)) := by
  unfold tnL
  rw [List.range_succ, List.flatMap_append]
  simp
def tkN (f key : Int) (n : Nat) : List Pt := (List.range n).flatMap fun p => if kyP (tnP f p) = key then [tnP f p] else []
theorem tkN_up (f key : Int) (n : Nat) : tkN f key (n + 1) = tkN f key n ++ if kyP (tnP f n) = key then [tnP f n] else [] := by
  unfold tkN
  rw [List.range_succ, List.flatMap_append]
  simp
theorem tkN_len (f key : Int) : ∀ n, (tkN f key n).length = (List.range n).countP fun p => decide (kyP (tnP f p) = key)
  | 0 => rfl
  | n + 1 => by
    rw [tkN_up, List.length_append, tkN_len f key n, List.range_succ, List.countP_append]
    by_cases h : kyP (tnP f n) = key <;> simp [h]
theorem countP_two {α : Type} (p q r : α → Bool) (h : ∀ x, p x = true → r x = true) (h2 : ∀ x, q x = true → r x = true) (h3 : ∀ x, p x = true → q x = false) : ∀ l : List α, l.countP p + l.countP q ≤ l.countP r
  | [] => by simp
  | x :: l => by
    have := countP_two p q r h h2 h3 l
    rw [List.countP_cons, List.countP_cons, List.countP_cons]
    have h4 := h x
    have h5 := h2 x
    have h6 := h3 x
    cases hp : p x <;> cases hq : q x <;> cases hr : r x <;> simp_all <;> omega
theorem tnL_count (f lo : Int) : ∀ m : Nat, (tnL f lo m).length ≤ (List.range 63).countP fun p => decide (kyP (tnP f p) < lo + (m : Int))
  | 0 => by simp [tnL]
  | m + 1 => by
    have h1 := tnL_count f lo m
    have h2 := countP_two (fun p => decide (kyP (tnP f p) < lo + (m : Int))) (fun p => decide (kyP (tnP f p) = lo + (m : Int))) (fun p => decide (kyP (tnP f p) < lo + ((m + 1 : Nat) : Int))) (fun x hx => by simp at hx ⊢; omega) (fun x hx => by simp at hx ⊢; omega) (fun x hx => by simp at hx ⊢; omega) (List.range 63)
    have h3 := tkN_len f (lo + (m : Int)) 63
    rw [tnL_up, List.length_append, show tkL f (lo + (m : Int)) = tkN f (lo + (m : Int)) 63 from rfl, h3]
    omega
theorem tnL_len (f lo : Int) (m : Nat) : (tnL f lo m).length ≤ 63 := by
  have h1 := tnL_count f lo m
  have h2 := List.countP_le_length (p := fun p => decide (kyP (tnP f p) < lo + (m : Int))) (l := List.range 63)
  rw [List.length_range] at h2
  omega
theorem tn_pv {f : Int} {x : Pt} {lo : Int} {m : Nat} (h0 : 0 ≤ lo) (h : x ∈ tnL f lo m) : pvP x = true ∧ lo ≤ kyP x ∧ kyP x < lo + (m : Int) ∧ ∃ p : Nat, p < 63 ∧ x = tnP f p := by
  obtain ⟨i, hi, h⟩ := List.mem_flatMap.1 h
  obtain ⟨p, hp, h⟩ := List.mem_flatMap.1 h
  have hi := List.mem_range.1 hi
  have hp := List.mem_range.1 hp
  split at h
  · rename_i hk
    simp at h
    subst h
    refine ⟨?_, by omega, by omega, p, hp, rfl⟩
    rw [← Bool.not_eq_false]
    intro hn
    unfold kyP keyZ at hk
    rw [if_neg (by rw [show pvB (tnP f p).s (tnP f p).a (tnP f p).o = false from hn]; simp)] at hk
    omega
  · cases h

/- How many lines there are. -/
/-- How many good ends of lines begin with a tone, over what is left of the cantus. -/
def cnN (T : List Pt) (f n : Int) : Int → List Pt → Pt → Nat
  | _, [], _ => 0
  | k, [c], p => if oneZ f c p k n = 0 then 1 else 0
  | k, c :: d :: r, p => if oneZ f c p k n = 0 then (T.map fun q => if twoZ c p d q = 0 then cnN T f n (k + 1) (d :: r) q else 0).sum else 0
theorem sum_le {α : Type} (g : α → Nat) (b : Nat) : ∀ l : List α, (∀ x ∈ l, g x ≤ b) → (l.map g).sum ≤ l.length * b
  | [], _ => by simp
  | x :: l, h => by
    have h1 := sum_le g b l fun y hy => h y (List.mem_cons_of_mem _ hy)
    have h2 := h x List.mem_cons_self
    rw [List.map_cons, List.sum_cons, List.length_cons, Nat.add_mul]
    omega
theorem cn_le (T : List Pt) (f n : Int) (hT : T.length ≤ 63) : ∀ (cs : List Pt) (k : Int) (p : Pt), cnN T f n k cs p ≤ 63 ^ (cs.length - 1)
  | [], k, p => by simp [cnN]
  | [c], k, p => by
    unfold cnN
    split <;> simp
  | c :: d :: r, k, p => by
    unfold cnN
    split
    · refine Nat.le_trans (sum_le _ (63 ^ r.length) T fun q _ => ?_) ?_
      · split
        · exact cn_le T f n hT (d :: r) (k + 1) q
        · exact Nat.zero_le _
      · rw [List.length_cons, List.length_cons, show r.length + 1 + 1 - 1 = r.length + 1 by omega, Nat.pow_succ, Nat.mul_comm (63 ^ r.length)]
        exact Nat.mul_le_mul_right _ hT
    · exact Nat.zero_le _
/-- How many lines there are in all. -/
def cnZ (T : List Pt) (f : Int) (c : List Pt) : Nat := (T.map (cnN T f c.length 0 c)).sum
theorem cnZ_le (T : List Pt) (f : Int) (c : List Pt) (hT : T.length ≤ 63) (hc : c.length ≤ 10) : cnZ T f c ≤ 63 ^ 10 := by
  unfold cnZ
  refine Nat.le_trans (sum_le _ (63 ^ 9) T fun q _ => Nat.le_trans (cn_le T f _ hT c 0 q) (Nat.pow_le_pow_right (by omega) (by omega))) ?_
  exact Nat.mul_le_mul_right _ hT

/- The line with a number. -/
/-- The tone in whose share a number lies, and the number in it. -/
def pkN (g : Pt → Nat) : Nat → List Pt → Option (Pt × Nat)
  | _, [] => none
  | m, q :: r => if m < g q then some (q, m) else pkN g (m - g q) r
theorem pkN_some (g : Pt → Nat) : ∀ (T : List Pt) (m : Nat), m < (T.map g).sum → ∃ q j, pkN g m T = some (q, j) ∧ q ∈ T ∧ j < g q
  | [], m, h => by simp at h
  | x :: T, m, h => by
    unfold pkN
    by_cases hx : m < g x
    · exact ⟨x, m, by rw [if_pos hx], List.mem_cons_self, hx⟩
    · rw [List.map_cons, List.sum_cons] at h
      obtain ⟨q, j, h1, h2, h3⟩ := pkN_some g T (m - g x) (by omega)
      exact ⟨q, j, by rw [if_neg hx]; exact h1, List.mem_cons_of_mem _ h2, h3⟩
/-- What share a tone has behind another one. -/
def shN (T : List Pt) (f n k : Int) (c p : Pt) (cs : List Pt) (q : Pt) : Nat := if twoZ c p (cs.headD ⟨0, 0, 0⟩) q = 0 then cnN T f n k cs q else 0
/-- The rest of the line behind tone p over c. -/
def lnF (T : List Pt) (f n : Int) : Int → Pt → Pt → List Pt → Nat → List Pt
  | _, _, _, [], _ => []
  | k, c, p, d :: r, m => match pkN (shN T f n k c p (d :: r)) m T with
    | some (q, j) => q :: lnF T f n (k + 1) d q r j
    | none => []
/-- The line with a number. -/
def lnL (T : List Pt) (f : Int) (c : List Pt) (m : Nat) : List Pt := match c with
  | [] => []
  | d :: r => match pkN (cnN T f c.length 0 c) m T with
    | some (q, j) => q :: lnF T f c.length 1 d q r j
    | none => []
theorem cn_next {T : List Pt} {f n k : Int} {c d p : Pt} {r : List Pt} {j : Nat} (h : j < cnN T f n k (c :: d :: r) p) : j < (T.map (shN T f n (k + 1) c p (d :: r))).sum := by
  unfold cnN at h
  split at h
  · exact h
  · omega
theorem cn_pos {T : List Pt} {f n k : Int} {c p : Pt} {r : List Pt} {j : Nat} (h : j < cnN T f n k (c :: r) p) : oneZ f c p k n = 0 := by
  cases r with
  | nil => unfold cnN at h; split at h <;> first | assumption | omega
  | cons d r => unfold cnN at h; split at h <;> first | assumption | omega
theorem lnF_len (T : List Pt) (f n : Int) : ∀ (r : List Pt) (k : Int) (c p : Pt) (j : Nat), j < cnN T f n k (c :: r) p → (lnF T f n (k + 1) c p r j).length = r.length ∧ ∀ x ∈ lnF T f n (k + 1) c p r j, x ∈ T
  | [], k, c, p, j, _ => by simp [lnF]
  | d :: r, k, c, p, j, h => by
    obtain ⟨q, i, h1, h2, h3⟩ := pkN_some _ T j (cn_next h)
    have h4 : i < cnN T f n (k + 1) (d :: r) q := by
      unfold shN at h3
      split at h3
      · exact h3
      · omega
    have h5 := lnF_len T f n r (k + 1) d q i h4
    unfold lnF
    rw [h1]
    dsimp only
    refine ⟨by rw [List.length_cons, List.length_cons, h5.1], fun x hx => ?_⟩
    rcases List.mem_cons.1 hx with rfl | hx
    · exact h2
    · exact h5.2 x hx
theorem lnL_len {T : List Pt} {f : Int} {c : List Pt} {m : Nat} (h : m < cnZ T f c) : (lnL T f c m).length = c.length ∧ ∀ x ∈ lnL T f c m, x ∈ T := by
  cases c with
  | nil => simp [lnL]
  | cons d r =>
    obtain ⟨q, i, h1, h2, h3⟩ := pkN_some _ T m h
    have h5 := lnF_len T f _ r 0 d q i h3
    unfold lnL
    dsimp only
    rw [h1]
    dsimp only
    refine ⟨congrArg (· + 1) h5.1, fun x hx => ?_⟩
    rcases List.mem_cons.1 hx with rfl | hx
    · exact h2
    · exact h5.2 x hx

/- Searches. -/
/-- A search is possible. -/
def soB (f : Int) (c : List Pt) (lo hi : Int) : Bool := cvB f c && (inB lo 0 107 && (inB hi lo 107 && decide (hi - lo ≤ 30)))
theorem soB_iff {f : Int} {c : List Pt} {lo hi : Int} : soB f c lo hi = true ↔ cvB f c = true ∧ (0 ≤ lo ∧ lo ≤ 107) ∧ (lo ≤ hi ∧ hi ≤ 107) ∧ hi - lo ≤ 30 := by
  unfold soB
  simp [inB_iff, and_assoc]
def tsL (f lo hi : Int) : List Pt := tnL f lo (hi + 1 - lo).toNat
/-- What CountLines answers. -/
def clZ (f : Int) (c : List Pt) (lo hi : Int) : Int := if soB f c lo hi = true then (cnZ (tsL f lo hi) f c : Int) else -1
/-- What LineNumber answers. -/
def lbB (f : Int) (c : List Pt) (lo hi m : Int) : Bool := decide (0 ≤ m) && decide (m < clZ f c lo hi)
def lnZ (f : Int) (c : List Pt) (lo hi m : Int) : List Pt := if lbB f c lo hi m = true then lnL (tsL f lo hi) f c m.toNat else []
theorem clZ_bd {f : Int} {c : List Pt} {lo hi : Int} : -1 ≤ clZ f c lo hi ∧ clZ f c lo hi ≤ 984930291881790849 := by
  unfold clZ
  split
  · rename_i h
    have h1 := cnZ_le (tsL f lo hi) f c (tnL_len _ _ _) (cvB_iff.1 (soB_iff.1 h).1).2.2.1
    have : (63 : Nat) ^ 10 = 984930291881790849 := by decide
    omega
  · omega
theorem ln_good {f : Int} {c : List Pt} {lo hi m : Int} (h : lbB f c lo hi m = true) : soB f c lo hi = true ∧ 0 ≤ m ∧ m.toNat < cnZ (tsL f lo hi) f c ∧ (lnZ f c lo hi m).length = c.length ∧ ∀ x ∈ lnZ f c lo hi m, pvP x = true ∧ lo ≤ kyP x ∧ kyP x ≤ hi := by
  have h0 := h
  unfold lbB at h
  simp at h
  obtain ⟨h1, h2⟩ := h
  unfold clZ at h2
  split at h2
  · rename_i hs
    have h3 : m.toNat < cnZ (tsL f lo hi) f c := by omega
    obtain ⟨h4, h5⟩ := lnL_len h3
    unfold lnZ
    rw [if_pos h0]
    refine ⟨hs, h1, h3, h4, fun x hx => ?_⟩
    obtain ⟨_, ⟨l0, _⟩, _, _⟩ := soB_iff.1 hs
    obtain ⟨g1, g2, g3, _⟩ := tn_pv l0 (h5 x hx)
    exact ⟨g1, g2, by omega⟩
  · omega
end Go.Proofs.YtieoobanpllmgaaDoor
