/- Plain facts for chapter 7: sections; the order in which their bars are played. -/
import Derived.Test.YtpfefbpmchigeaaDoorPure1
namespace Go.Proofs.YtpfefbpmchigeaaDoor
set_option linter.unusedSimpArgs false
set_option linter.unusedVariables false

/-- A section: its bars; how often it is played; its endings. -/
structure Sec where
  b : Int
  t : Int
  e : List Int

/-- the section is valid; all of them are. -/
def seB (s : Sec) : Bool := s.e.all (fun x => inB x 0 12) && inB s.b 0 12 && inB s.t 1 4 && (s.e.isEmpty || (s.e.length : Int) == s.t)
def ssB (l : List Sec) : Bool := l.all seB && decide (l.length ≤ 8)
theorem seB_iff {s : Sec} : seB s = true ↔ (∀ x ∈ s.e, 0 ≤ x ∧ x ≤ 12) ∧ (0 ≤ s.b ∧ s.b ≤ 12) ∧ (1 ≤ s.t ∧ s.t ≤ 4) ∧ (s.e = [] ∨ (s.e.length : Int) = s.t) := by
  unfold seB
  simp [inB_iff, List.isEmpty_iff, and_assoc]
theorem ssB_iff {l : List Sec} : ssB l = true ↔ (∀ s ∈ l, seB s = true) ∧ l.length ≤ 8 := by simp [ssB]

def sumI : List Int → Int
  | [] => 0
  | x :: l => x + sumI l
theorem sumI_append : ∀ (u v : List Int), sumI (u ++ v) = sumI u + sumI v
  | [], v => by simp [sumI]
  | x :: u, v => by simp only [List.cons_append, sumI, sumI_append u v]; omega
theorem sumI_pos : ∀ {l : List Int}, (∀ x ∈ l, 0 ≤ x) → 0 ≤ sumI l
  | [], _ => by simp [sumI]
  | x :: l, h => by
    have h1 := h x (by simp)
    have h2 := sumI_pos (fun y hy => h y (by simp [hy]) : ∀ y ∈ l, 0 ≤ y)
    simp only [sumI]; omega
/-- the bars on paper. -/
def wrS (s : Sec) : Int := s.b + sumI s.e
def wrN : List Sec → Int
  | [] => 0
  | s :: l => wrS s + wrN l
def wrZ (l : List Sec) : Int := if ssB l then wrN l else -1
theorem wrN_append : ∀ (u v : List Sec), wrN (u ++ v) = wrN u + wrN v
  | [], v => by simp [wrN]
  | s :: u, v => by simp only [List.cons_append, wrN, wrN_append u v]; omega
theorem wrS_pos {s : Sec} (h : seB s = true) : 0 ≤ wrS s := by
  obtain ⟨h1, h2, _⟩ := seB_iff.1 h
  have := sumI_pos (fun x hx => (h1 x hx).1)
  unfold wrS; omega
theorem wrN_pos : ∀ {l : List Sec}, (∀ s ∈ l, seB s = true) → 0 ≤ wrN l
  | [], _ => by simp [wrN]
  | s :: l, h => by
    have h1 := wrS_pos (h s (by simp))
    have h2 := wrN_pos (fun z hz => h z (by simp [hz]) : ∀ z ∈ l, seB z = true)
    simp only [wrN]; omega

/-! ### The order -/

/-- n numbers from a on. -/
def rg (a n : Int) : List Int := (List.range n.toNat).map fun (i : Nat) => a + (i : Int)
theorem rg_zero {a n : Int} (h : n ≤ 0) : rg a n = [] := by
  unfold rg
  rw [show n.toNat = 0 by omega]; rfl
theorem rg_up (a : Int) (n : Nat) : rg a ((n : Int) + 1) = rg a n ++ [a + n] := by
  unfold rg
  rw [show ((n : Int) + 1).toNat = n + 1 by omega, show (n : Int).toNat = n by omega, List.range_succ, List.map_append]
  rfl
theorem rg_len (a n : Int) : (rg a n).length = n.toNat := by simp [rg]
theorem rg_mem {a n y : Int} : y ∈ rg a n ↔ a ≤ y ∧ y < a + n := by
  unfold rg
  simp only [List.mem_map, List.mem_range]
  constructor
  · rintro ⟨i, hi, rfl⟩; omega
  · intro ⟨h1, h2⟩
    exact ⟨(y - a).toNat, by omega, by omega⟩
theorem rg_count0 (a y : Int) (n : Nat) : (rg a n).count y = if a ≤ y ∧ y < a + n then 1 else 0 := by
  induction n with
  | zero =>
    rw [rg_zero (by omega)]
    rw [if_neg (by omega)]; rfl
  | succ n ih =>
    push_cast
    rw [rg_up, List.count_append, ih, List.count_singleton]
    by_cases h : a + (n : Int) = y
    · rw [if_neg (by omega), if_pos (by simpa using h), if_pos (by omega)]
    · rw [if_neg (show ¬ ((a + (n : Int) == y) = true) by simpa using h)]
      by_cases h2 : a ≤ y ∧ y < a + n
      · rw [if_pos h2, if_pos (by omega)]
      · rw [if_neg h2, if_neg (by omega)]
theorem rg_count (a y : Int) {n : Int} (h : 0 ≤ n) : (rg a n).count y = if a ≤ y ∧ y < a + n then 1 else 0 := by
  obtain ⟨m, rfl⟩ : ∃ m : Nat, n = m := ⟨n.toNat, by omega⟩
  exact rg_count0 a y m
theorem rg_shift (a n c : Int) : rg (a + c) n = (rg a n).map (· + c) := by
  unfold rg
  rw [List.map_map]
  apply List.map_congr_left
  intro i _
  simp only [Function.comp]
  omega
/-- a section, time by time: what its endings have, one for each time. -/
def esO (s : Sec) : List Int := if s.e = [] then List.replicate s.t.toNat 0 else s.e
def plT (at' b : Int) : Int → List Int → List Int
  | _, [] => []
  | en, x :: r => rg at' b ++ rg en x ++ plT at' b (en + x) r
def plL : Int → List Sec → List Int
  | _, [] => []
  | at', s :: l => plT at' s.b (at' + s.b) (esO s) ++ plL (at' + wrS s) l
def poL (l : List Sec) : List Int := if ssB l then plL 0 l else []
theorem sum_zero : ∀ n : Nat, sumI (List.replicate n 0) = 0
  | 0 => rfl
  | n + 1 => by rw [List.replicate_succ]; simp only [sumI, sum_zero n]; omega
theorem esO_sum (s : Sec) : sumI (esO s) = sumI s.e := by
  unfold esO
  split
  · rename_i h; rw [h, sum_zero]; rfl
  · rfl
theorem esO_pos {s : Sec} (h : seB s = true) : ∀ x ∈ esO s, 0 ≤ x ∧ x ≤ 12 := by
  obtain ⟨h1, _⟩ := seB_iff.1 h
  unfold esO
  split
  · intro x hx
    have := (List.mem_replicate.1 hx).2
    omega
  · exact h1
theorem esO_len {s : Sec} (h : seB s = true) : ((esO s).length : Int) = s.t := by
  obtain ⟨_, _, h3, h4⟩ := seB_iff.1 h
  unfold esO
  split
  · rw [List.length_replicate]; omega
  · rename_i hne
    rcases h4 with h4 | h4
    · exact absurd h4 hne
    · exact h4
theorem plT_mem {at' b y : Int} : ∀ {es : List Int} {en : Int}, (∀ x ∈ es, 0 ≤ x) → y ∈ plT at' b en es → (at' ≤ y ∧ y < at' + b) ∨ (en ≤ y ∧ y < en + sumI es)
  | [], _, _, h => by cases h
  | x :: r, en, hp, h => by
    have hx := hp x (by simp)
    have hr := sumI_pos (fun z hz => hp z (by simp [hz]) : ∀ z ∈ r, 0 ≤ z)
    simp only [plT, List.mem_append, rg_mem] at h
    simp only [sumI]
    rcases h with (h | h) | h
    · exact Or.inl h
    · exact Or.inr (by omega)
    · rcases plT_mem (fun z hz => hp z (by simp [hz])) h with h | h
      · exact Or.inl h
      · exact Or.inr (by omega)
theorem plL_mem {y : Int} : ∀ {l : List Sec} {at' : Int}, (∀ s ∈ l, seB s = true) → y ∈ plL at' l → at' ≤ y ∧ y < at' + wrN l
  | [], _, _, h => by cases h
  | s :: l, at', hv, h => by
    have hs := hv s (by simp)
    have hl : ∀ z ∈ l, seB z = true := fun z hz => hv z (by simp [hz])
    obtain ⟨h1, h2, h3, _⟩ := seB_iff.1 hs
    have hw := wrS_pos hs
    have hn := wrN_pos hl
    have hsum := sumI_pos (fun x hx => (h1 x hx).1)
    simp only [plL, List.mem_append] at h
    simp only [wrN]
    rcases h with h | h
    · rcases plT_mem (fun x hx => (esO_pos hs x hx).1) h with h | h
      · unfold wrS; omega
      · rw [esO_sum] at h
        unfold wrS; omega
    · have := plL_mem hl h
      omega
theorem plL_append : ∀ (u v : List Sec) (at' : Int), plL at' (u ++ v) = plL at' u ++ plL (at' + wrN u) v
  | [], v, at' => by simp [plL, wrN]
  | s :: u, v, at' => by
    simp only [List.cons_append, plL, plL_append u v, wrN, List.append_assoc]
    rw [show at' + wrS s + wrN u = at' + (wrS s + wrN u) by omega]
theorem plT_shift (c : Int) {at' b : Int} : ∀ (es : List Int) (en : Int), plT (at' + c) b (en + c) es = (plT at' b en es).map (· + c)
  | [], _ => rfl
  | x :: r, en => by
    simp only [plT, List.map_append, rg_shift]
    rw [← plT_shift c r (en + x), show en + c + x = en + x + c by omega]
theorem plL_shift (c : Int) : ∀ (l : List Sec) (at' : Int), plL (at' + c) l = (plL at' l).map (· + c)
  | [], _ => rfl
  | s :: l, at' => by
    simp only [plL, List.map_append]
    rw [← plT_shift, ← plL_shift c l, show at' + c + s.b = at' + s.b + c by omega, show at' + c + wrS s = at' + wrS s + c by omega]
/-- two lists of sections, one behind the other. -/
theorem plL_join (a b : List Sec) : plL 0 (a ++ b) = plL 0 a ++ (plL 0 b).map (· + wrN a) := by
  rw [plL_append, ← plL_shift]

/-! ### How often a bar is played -/

theorem count_none {y : Int} {l : List Int} (h : ¬ y ∈ l) : l.count y = 0 := List.count_eq_zero.2 h
theorem plT_bar {at' b y : Int} (hb : 0 ≤ b) (h : at' ≤ y ∧ y < at' + b) : ∀ (es : List Int) (en : Int), (∀ x ∈ es, 0 ≤ x) → at' + b ≤ en → (plT at' b en es).count y = es.length
  | [], _, _, _ => rfl
  | x :: r, en, hp, he => by
    have hx := hp x (by simp)
    simp only [plT, List.count_append]
    rw [plT_bar hb h r (en + x) (fun z hz => hp z (by simp [hz])) (by omega), rg_count _ _ hb, rg_count _ _ hx, if_pos h, if_neg (by omega), List.length_cons]
    omega
theorem plT_end {at' b y : Int} (hb : 0 ≤ b) : ∀ (es : List Int) (en : Int), (∀ x ∈ es, 0 ≤ x) → at' + b ≤ en → en ≤ y → y < en + sumI es → (plT at' b en es).count y = 1
  | [], en, _, _, h1, h2 => by simp only [sumI] at h2; omega
  | x :: r, en, hp, he, h1, h2 => by
    have hx := hp x (by simp)
    have hr : ∀ z ∈ r, 0 ≤ z := fun z hz => hp z (by simp [hz])
    simp only [sumI] at h2
    simp only [plT, List.count_append]
    rw [rg_count _ _ hb, rg_count _ _ hx, if_neg (by omega)]
    by_cases h : y < en + x
    · rw [if_pos ⟨h1, h⟩, count_none (fun hm => by rcases plT_mem hr hm with hm | hm <;> omega)]
    · rw [if_neg (by omega), plT_end hb r (en + x) hr (by omega) (by omega) (by omega)]
theorem plL_sec {l : List Sec} (hv : ∀ s ∈ l, seB s = true) {k : Nat} {s : Sec} (hs : l[k]? = some s) {y : Int} (h : wrN (l.take k) ≤ y ∧ y < wrN (l.take k) + wrS s) :
    (plL 0 l).count y = (plT (wrN (l.take k)) s.b (wrN (l.take k) + s.b) (esO s)).count y := by
  have hk := (List.getElem?_eq_some_iff.1 hs).1
  have hd : l = l.take k ++ s :: l.drop (k + 1) := by
    have : l.drop k = s :: l.drop (k + 1) := by
      rw [List.drop_eq_getElem_cons hk]; congr 1
      rw [List.getElem?_eq_getElem hk] at hs; exact Option.some.inj hs
    rw [← this, List.take_append_drop]
  have h1 : ∀ z ∈ l.take k, seB z = true := fun z hz => hv z (List.mem_of_mem_take hz)
  have h2 : ∀ z ∈ l.drop (k + 1), seB z = true := fun z hz => hv z (List.mem_of_mem_drop hz)
  generalize l.take k = u at *
  generalize l.drop (k + 1) = v at *
  rw [hd, plL_append]
  simp only [plL, List.count_append, Int.zero_add]
  rw [count_none (fun hm => by have := plL_mem h1 hm; omega), count_none (l := plL (wrN u + wrS s) v) (fun hm => by have := plL_mem h2 hm; omega)]
  omega
/-- each bar of a section is played as often as the section tells, and each bar of an ending once. -/
theorem pl_bar {l : List Sec} (hv : ∀ s ∈ l, seB s = true) {k : Nat} {s : Sec} (hs : l[k]? = some s) {y : Int} (h : wrN (l.take k) ≤ y ∧ y < wrN (l.take k) + s.b) : ((plL 0 l).count y : Int) = s.t := by
  have hse := hv s (List.mem_of_getElem? hs)
  obtain ⟨h1, h2, _⟩ := seB_iff.1 hse
  have hsum := sumI_pos (fun x hx => (h1 x hx).1)
  rw [plL_sec hv hs ⟨h.1, by unfold wrS; omega⟩, plT_bar h2.1 h _ _ (fun x hx => (esO_pos hse x hx).1) (Int.le_refl _)]
  exact esO_len hse
theorem pl_end {l : List Sec} (hv : ∀ s ∈ l, seB s = true) {k : Nat} {s : Sec} (hs : l[k]? = some s) {y : Int} (h : wrN (l.take k) + s.b ≤ y ∧ y < wrN (l.take k) + wrS s) : (plL 0 l).count y = 1 := by
  have hse := hv s (List.mem_of_getElem? hs)
  obtain ⟨h1, h2, _⟩ := seB_iff.1 hse
  rw [plL_sec hv hs ⟨by omega, h.2⟩]
  exact plT_end h2.1 _ _ (fun x hx => (esO_pos hse x hx).1) (Int.le_refl _) h.1 (by rw [esO_sum]; have := h.2; unfold wrS at this; omega)
end Go.Proofs.YtpfefbpmchigeaaDoor
