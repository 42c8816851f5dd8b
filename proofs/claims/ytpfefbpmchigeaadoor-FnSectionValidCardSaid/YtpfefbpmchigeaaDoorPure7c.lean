/- Plain facts for chapter 7: the jumps by which sections are played; the order, a section and a time at a time. -/
import Derived.Test.YtpfefbpmchigeaaDoorPure7b
namespace Go.Proofs.YtpfefbpmchigeaaDoor
set_option linter.unusedSimpArgs false
set_option linter.unusedVariables false

/-- A jump: to a bar on paper, so many bars. -/
abbrev Jp := Int × Int
/-- the bars that jumps play. -/
def jpF : List Jp → List Int
  | [] => []
  | j :: l => rg j.1 j.2 ++ jpF l
theorem jpF_append : ∀ (u v : List Jp), jpF (u ++ v) = jpF u ++ jpF v
  | [], v => rfl
  | j :: u, v => by simp only [List.cons_append, jpF, jpF_append u v, List.append_assoc]
theorem jpF_one (a b : Int) : jpF [(a, b)] = rg a b := by simp [jpF]
/-- the jumps of a section: with endings; of one that has none; of a list. -/
def jmT (at' b : Int) : Int → List Int → List Jp
  | _, [] => []
  | en, x :: r => (at', b) :: (en, x) :: jmT at' b (en + x) r
def jmS (at' : Int) (s : Sec) : List Jp := if s.e = [] then List.replicate s.t.toNat (at', s.b) else jmT at' s.b (at' + s.b) s.e
def jmL : Int → List Sec → List Jp
  | _, [] => []
  | at', s :: l => jmS at' s ++ jmL (at' + wrS s) l
theorem jmT_append {at' b : Int} : ∀ (u v : List Int) (en : Int), jmT at' b en (u ++ v) = jmT at' b en u ++ jmT at' b (en + sumI u) v
  | [], v, en => by simp [jmT, sumI]
  | x :: u, v, en => by
    simp only [List.cons_append, jmT, jmT_append u v, sumI]
    rw [show en + x + sumI u = en + (x + sumI u) by omega]
theorem jmL_append : ∀ (u v : List Sec) (at' : Int), jmL at' (u ++ v) = jmL at' u ++ jmL (at' + wrN u) v
  | [], v, at' => by simp [jmL, wrN]
  | s :: u, v, at' => by
    simp only [List.cons_append, jmL, jmL_append u v, wrN, List.append_assoc]
    rw [show at' + wrS s + wrN u = at' + (wrS s + wrN u) by omega]
theorem plT_append {at' b : Int} : ∀ (u v : List Int) (en : Int), plT at' b en (u ++ v) = plT at' b en u ++ plT at' b (en + sumI u) v
  | [], v, en => by simp [plT, sumI]
  | x :: u, v, en => by
    simp only [List.cons_append, plT, plT_append u v, sumI, List.append_assoc]
    rw [show en + x + sumI u = en + (x + sumI u) by omega]
theorem jpF_T {at' b : Int} : ∀ (es : List Int) (en : Int), jpF (jmT at' b en es) = plT at' b en es
  | [], _ => rfl
  | x :: r, en => by simp only [jmT, jpF, plT, jpF_T r, List.append_assoc]
theorem jpF_rep {at' b : Int} : ∀ (n : Nat) (en : Int), jpF (List.replicate n (at', b)) = plT at' b en (List.replicate n 0)
  | 0, _ => rfl
  | n + 1, en => by
    simp only [List.replicate_succ, jpF, plT, jpF_rep n (en + 0)]
    rw [rg_zero (a := en) (Int.le_refl 0)]
    simp
theorem jpF_S (at' : Int) (s : Sec) : jpF (jmS at' s) = plT at' s.b (at' + s.b) (esO s) := by
  unfold jmS esO
  split
  · exact jpF_rep _ _
  · exact jpF_T _ _
/-- the jumps play the order. -/
theorem jpF_L : ∀ (l : List Sec) (at' : Int), jpF (jmL at' l) = plL at' l
  | [], _ => rfl
  | s :: l, at' => by simp only [jmL, plL, jpF_append, jpF_S, jpF_L l]
theorem jmT_len {at' b : Int} : ∀ (es : List Int) (en : Int), (jmT at' b en es).length = 2 * es.length
  | [], _ => rfl
  | x :: r, en => by simp only [jmT, List.length_cons, jmT_len r]; omega
theorem jmS_len {s : Sec} (h : seB s = true) (at' : Int) : (jmS at' s).length ≤ 8 := by
  obtain ⟨_, _, h3, h4⟩ := seB_iff.1 h
  unfold jmS
  split
  · rw [List.length_replicate]; omega
  · rename_i hne
    rw [jmT_len]
    rcases h4 with h4 | h4
    · exact absurd h4 hne
    · omega
theorem jmL_len : ∀ {l : List Sec} (at' : Int), (∀ s ∈ l, seB s = true) → (jmL at' l).length ≤ 8 * l.length
  | [], _, _ => by simp [jmL]
  | s :: l, at', h => by
    have h1 := jmS_len (h s (by simp)) at'
    have h2 := jmL_len (at' + wrS s) (fun z hz => h z (by simp [hz]) : ∀ z ∈ l, seB z = true)
    simp only [jmL, List.length_append, List.length_cons]
    omega
/-- the bars of a jump of valid sections: few, and within the bars on paper. -/
theorem jmT_mem {at' b : Int} {j : Jp} : ∀ {es : List Int} {en : Int}, (∀ x ∈ es, 0 ≤ x) → j ∈ jmT at' b en es → (j = (at', b)) ∨ (en ≤ j.1 ∧ j.1 + j.2 ≤ en + sumI es ∧ j.2 ∈ es)
  | [], _, _, h => by cases h
  | x :: r, en, hp, h => by
    have hx := hp x (by simp)
    have hr := sumI_pos (fun z hz => hp z (by simp [hz]) : ∀ z ∈ r, 0 ≤ z)
    simp only [jmT, List.mem_cons] at h
    simp only [sumI]
    rcases h with h | h | h
    · exact Or.inl h
    · subst h
      exact Or.inr ⟨Int.le_refl _, by show en + x ≤ _; omega, by simp⟩
    · rcases jmT_mem (fun z hz => hp z (by simp [hz])) h with h | ⟨h1, h2, h3⟩
      · exact Or.inl h
      · exact Or.inr ⟨by omega, by omega, by simp [h3]⟩
theorem jmS_mem {s : Sec} (h : seB s = true) {at' : Int} {j : Jp} (hj : j ∈ jmS at' s) : at' ≤ j.1 ∧ j.1 + j.2 ≤ at' + wrS s ∧ 0 ≤ j.2 ∧ j.2 ≤ 12 := by
  obtain ⟨h1, h2, _⟩ := seB_iff.1 h
  have hs := sumI_pos (fun x hx => (h1 x hx).1)
  unfold jmS at hj
  unfold wrS
  split at hj
  · have := (List.mem_replicate.1 hj).2
    subst this
    show at' ≤ at' ∧ at' + s.b ≤ _ ∧ 0 ≤ s.b ∧ s.b ≤ 12
    omega
  · rcases jmT_mem (fun x hx => (h1 x hx).1) hj with h | ⟨g1, g2, g3⟩
    · subst h
      show at' ≤ at' ∧ at' + s.b ≤ _ ∧ 0 ≤ s.b ∧ s.b ≤ 12
      omega
    · have := h1 _ g3
      omega
theorem jmL_mem : ∀ {l : List Sec} {at' : Int} {j : Jp}, (∀ s ∈ l, seB s = true) → j ∈ jmL at' l → at' ≤ j.1 ∧ j.1 + j.2 ≤ at' + wrN l ∧ 0 ≤ j.2 ∧ j.2 ≤ 12
  | [], _, _, _, h => by cases h
  | s :: l, at', j, hv, h => by
    have hs := hv s (by simp)
    have hl : ∀ z ∈ l, seB z = true := fun z hz => hv z (by simp [hz])
    have hw := wrS_pos hs
    have hn := wrN_pos hl
    simp only [jmL, List.mem_append] at h
    simp only [wrN]
    rcases h with h | h
    · have := jmS_mem hs h
      omega
    · have := jmL_mem hl h
      omega
/-- the cells of jumps. -/
def jpC : List Jp → List Value
  | [] => []
  | j :: l => .int .i64 j.1 :: .int .i64 j.2 :: jpC l
theorem jpC_len : ∀ l : List Jp, (jpC l).length = l.length * 2
  | [] => rfl
  | _ :: l => by simp only [jpC, List.length_cons, jpC_len l]; omega
theorem jpC_append : ∀ (u v : List Jp), jpC (u ++ v) = jpC u ++ jpC v
  | [], _ => rfl
  | j :: u, v => by simp only [List.cons_append, jpC, jpC_append u v]
theorem jpC_at : ∀ {l : List Jp} {k : Nat} {j : Jp}, l[k]? = some j → (jpC l)[k * 2]? = some (.int .i64 j.1) ∧ (jpC l)[k * 2 + 1]? = some (.int .i64 j.2)
  | [], _, _, h => by simp at h
  | z :: l, 0, j, h => by
    simp at h
    subst h
    exact ⟨rfl, rfl⟩
  | z :: l, k + 1, j, h => by
    have ih := jpC_at (l := l) (k := k) (j := j) (by simpa using h)
    rw [show (k + 1) * 2 = k * 2 + 2 by omega]
    exact ih
theorem jpC_ints : ∀ (l : List Jp), ∀ u ∈ jpC l, u.oneCell' = true
  | [], u, h => by cases h
  | j :: l, u, h => by
    simp only [jpC, List.mem_cons] at h
    rcases h with rfl | rfl | h
    · rfl
    · rfl
    · exact jpC_ints l u h

/-! ### The order, a part at a time -/

theorem get_up {α : Type} {l : List α} {k : Nat} {x : α} (h : l[k]? = some x) : l.take (k + 1) = l.take k ++ [x] := by rw [List.take_add_one, h]; rfl
theorem plL_up {l : List Sec} {k : Nat} {s : Sec} (h : l[k]? = some s) : plL 0 (l.take (k + 1)) = plL 0 (l.take k) ++ plT (wrN (l.take k)) s.b (wrN (l.take k) + s.b) (esO s) := by
  rw [get_up h, plL_append]; simp [plL]
theorem jmL_up {l : List Sec} {k : Nat} {s : Sec} (h : l[k]? = some s) : jmL 0 (l.take (k + 1)) = jmL 0 (l.take k) ++ jmS (wrN (l.take k)) s := by
  rw [get_up h, jmL_append]; simp [jmL]
theorem plT_up {at' b en : Int} {es : List Int} {k : Nat} {x : Int} (h : es[k]? = some x) : plT at' b en (es.take (k + 1)) = (plT at' b en (es.take k) ++ rg at' b) ++ rg (en + sumI (es.take k)) x := by
  rw [get_up h, plT_append]; simp [plT]
theorem jmT_up {at' b en : Int} {es : List Int} {k : Nat} {x : Int} (h : es[k]? = some x) : jmT at' b en (es.take (k + 1)) = (jmT at' b en (es.take k) ++ [(at', b)]) ++ [(en + sumI (es.take k), x)] := by
  rw [get_up h, jmT_append]; simp [jmT]
theorem sum_take_up {l : List Int} {k : Nat} {x : Int} (hx : l[k]? = some x) : sumI (l.take (k + 1)) = sumI (l.take k) + x := by
  rw [get_up hx, sumI_append]; simp [sumI]
theorem wrN_take_up {l : List Sec} {k : Nat} {s : Sec} (hs : l[k]? = some s) : wrN (l.take (k + 1)) = wrN (l.take k) + wrS s := by
  rw [get_up hs, wrN_append]; simp [wrN]
theorem rep_up {α : Type} (n : Nat) (x : α) : List.replicate (n + 1) x = List.replicate n x ++ [x] := by rw [List.replicate_succ']
/-- what an ending has at a time: its own, or nothing. -/
theorem esO_at {s : Sec} (h : seB s = true) {k : Nat} (hk : (k : Int) < s.t) : ∃ x, (esO s)[k]? = some x ∧ (s.e = [] ∧ x = 0 ∨ s.e[k]? = some x ∧ s.e ≠ [] ∧ (s.e.length : Int) = s.t) ∧ 0 ≤ x ∧ x ≤ 12 := by
  have hl := esO_len h
  obtain ⟨x, hx⟩ : ∃ x, (esO s)[k]? = some x := ⟨_, List.getElem?_eq_getElem (by omega)⟩
  refine ⟨x, hx, ?_, esO_pos h x (List.mem_of_getElem? hx)⟩
  by_cases he : s.e = []
  · refine Or.inl ⟨he, ?_⟩
    have e : esO s = List.replicate s.t.toNat 0 := by unfold esO; rw [if_pos he]
    rw [e, List.getElem?_replicate] at hx
    split at hx
    · exact (Option.some.inj hx).symm
    · cases hx
  · have e : esO s = s.e := by unfold esO; rw [if_neg he]
    exact Or.inr ⟨by rw [← e]; exact hx, he, by rw [← e]; exact hl⟩
/-- a part of the order is not longer than the whole. -/
theorem plL_take_len {l : List Sec} (hv : ssB l = true) (k : Nat) : ((plL 0 (l.take k)).length : Int) ≤ 96 * k := by
  have h1 := (ssB_iff.1 (ssB_take hv k)).1
  have := (pl_len (at' := 0) h1).2.1
  have h2 : (l.take k).length ≤ k := by rw [List.length_take]; omega
  omega
theorem plT_take_len {s : Sec} (h : seB s = true) (at' en : Int) (k : Nat) (hk : (k : Int) ≤ s.t) : ((plT at' s.b en ((esO s).take k)).length : Int) ≤ 24 * k ∧ 0 ≤ sumI ((esO s).take k) ∧ sumI ((esO s).take k) ≤ 12 * k := by
  obtain ⟨h1, h2, h3, h4⟩ := seB_iff.1 h
  have hl := esO_len h
  have hp : ∀ x ∈ (esO s).take k, 0 ≤ x ∧ x ≤ 12 := fun x hx => esO_pos h x (List.mem_of_mem_take hx)
  have hkl : ((esO s).take k).length = k := by rw [List.length_take]; omega
  have a := sumI_pos (fun x hx => (hp x hx).1)
  have b := sumI_le (fun x hx => (hp x hx).2)
  rw [hkl] at b
  rw [plT_len h2.1 _ _ (fun x hx => (hp x hx).1), hkl]
  have m : (k : Int) * s.b ≤ k * 12 := Int.mul_le_mul_of_nonneg_left h2.2 (by omega)
  omega
end Go.Proofs.YtpfefbpmchigeaaDoor
