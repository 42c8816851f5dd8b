/- Plain facts for chapter 7: every bar is played; how many there are. -/
import Derived.Test.YtpfefbpmchigeaaDoorPure7
namespace Go.Proofs.YtpfefbpmchigeaaDoor
set_option linter.unusedSimpArgs false
set_option linter.unusedVariables false

theorem plT_cover {at' b y : Int} (hb : 0 ≤ b) {es : List Int} {en : Int} (hp : ∀ x ∈ es, 0 ≤ x) (he : at' + b ≤ en) (hn : es ≠ []) (h : (at' ≤ y ∧ y < at' + b) ∨ (en ≤ y ∧ y < en + sumI es)) : y ∈ plT at' b en es := by
  rcases h with h | h
  · refine List.count_pos_iff.1 ?_
    rw [plT_bar hb h es en hp he]
    exact List.length_pos_iff.2 hn
  · refine List.count_pos_iff.1 ?_
    rw [plT_end hb es en hp he h.1 h.2]
    omega
theorem esO_ne {s : Sec} (h : seB s = true) : esO s ≠ [] := fun e => by
  have := esO_len h
  rw [e] at this
  have h3 := (seB_iff.1 h).2.2.1
  simp at this
  omega
/-- every bar on paper is played. -/
theorem plL_cover {y : Int} : ∀ {l : List Sec} {at' : Int}, (∀ s ∈ l, seB s = true) → at' ≤ y → y < at' + wrN l → y ∈ plL at' l
  | [], _, _, h1, h2 => by simp only [wrN] at h2; omega
  | s :: l, at', hv, h1, h2 => by
    have hs := hv s (by simp)
    simp only [wrN] at h2
    simp only [plL, List.mem_append]
    by_cases h : y < at' + wrS s
    · refine Or.inl (plT_cover (seB_iff.1 hs).2.1.1 (fun x hx => (esO_pos hs x hx).1) (Int.le_refl _) (esO_ne hs) ?_)
      rw [esO_sum]
      unfold wrS at h
      omega
    · exact Or.inr (plL_cover (fun z hz => hv z (by simp [hz])) (by omega) (by omega))
theorem plT_len {at' b : Int} (hb : 0 ≤ b) : ∀ (es : List Int) (en : Int), (∀ x ∈ es, 0 ≤ x) → ((plT at' b en es).length : Int) = (es.length : Int) * b + sumI es
  | [], _, _ => by simp [plT, sumI]
  | x :: r, en, hp => by
    have hx := hp x (by simp)
    have ih := plT_len (at' := at') hb r (en + x) (fun z hz => hp z (by simp [hz]))
    simp only [plT, List.length_append, rg_len, List.length_cons, sumI]
    push_cast
    rw [ih, Int.add_mul, Int.one_mul]
    omega
theorem sumI_le {c : Int} : ∀ {l : List Int}, (∀ x ∈ l, x ≤ c) → sumI l ≤ (l.length : Int) * c
  | [], _ => by simp [sumI]
  | x :: l, h => by
    have h1 := h x (by simp)
    have h2 := sumI_le (fun y hy => h y (by simp [hy]) : ∀ y ∈ l, y ≤ c)
    simp only [sumI, List.length_cons]
    push_cast
    rw [Int.add_mul, Int.one_mul]
    omega
/-- a section has at most 60 bars on paper, and plays at most 96; not fewer than are on paper. -/
theorem sec_len {s : Sec} (h : seB s = true) (at' en : Int) : wrS s ≤ ((plT at' s.b en (esO s)).length : Int) ∧ ((plT at' s.b en (esO s)).length : Int) ≤ 96 ∧ wrS s ≤ 60 := by
  obtain ⟨h1, h2, h3, h4⟩ := seB_iff.1 h
  have hl := esO_len h
  have hs := sumI_le (fun x hx => (esO_pos h x hx).2)
  have hp := sumI_pos (fun x hx => (esO_pos h x hx).1)
  rw [plT_len h2.1 _ _ (fun x hx => (esO_pos h x hx).1), hl]
  rw [hl] at hs
  have e := esO_sum s
  unfold wrS
  rw [← e]
  have m1 : s.b ≤ s.t * s.b := by
    have := Int.mul_le_mul_of_nonneg_right (show (1 : Int) ≤ s.t by omega) h2.1
    omega
  have m2 : s.t * s.b ≤ 4 * s.b := Int.mul_le_mul_of_nonneg_right h3.2 h2.1
  have m3 : s.t * 12 ≤ 48 := by omega
  omega
theorem pl_len : ∀ {l : List Sec} {at' : Int}, (∀ s ∈ l, seB s = true) → wrN l ≤ ((plL at' l).length : Int) ∧ ((plL at' l).length : Int) ≤ 96 * l.length ∧ wrN l ≤ 60 * l.length
  | [], _, _ => by simp [wrN, plL]
  | s :: l, at', hv => by
    have h1 := sec_len (hv s (by simp)) at' (at' + s.b)
    have h2 := pl_len (at' := at' + wrS s) (fun z hz => hv z (by simp [hz]) : ∀ z ∈ l, seB z = true)
    simp only [plL, wrN, List.length_append, List.length_cons]
    push_cast
    omega
/-- of valid sections: at most 768 bars are played. -/
theorem po_len {l : List Sec} (h : ssB l = true) : wrN l ≤ ((plL 0 l).length : Int) ∧ ((plL 0 l).length : Int) ≤ 768 ∧ 0 ≤ wrN l ∧ wrN l ≤ 480 := by
  obtain ⟨h1, h2⟩ := ssB_iff.1 h
  have := pl_len (at' := 0) h1
  have h3 := wrN_pos h1
  omega
theorem ssB_take {l : List Sec} (h : ssB l = true) (k : Nat) : ssB (l.take k) = true := by
  obtain ⟨h1, h2⟩ := ssB_iff.1 h
  exact ssB_iff.2 ⟨fun s hs => h1 s (List.mem_of_mem_take hs), by simp; omega⟩
theorem ssB_left {a b : List Sec} (h : ssB (a ++ b) = true) : ssB a = true ∧ ssB b = true := by
  obtain ⟨h1, h2⟩ := ssB_iff.1 h
  simp only [List.length_append] at h2
  exact ⟨ssB_iff.2 ⟨fun s hs => h1 s (by simp [hs]), by omega⟩, ssB_iff.2 ⟨fun s hs => h1 s (by simp [hs]), by omega⟩⟩
end Go.Proofs.YtpfefbpmchigeaaDoor
