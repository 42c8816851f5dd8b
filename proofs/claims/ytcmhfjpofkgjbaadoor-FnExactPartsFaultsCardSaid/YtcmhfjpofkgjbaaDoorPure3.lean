/- Plain facts for chapter 3: keys. -/
import Derived.Test.YtcmhfjpofkgjbaaDoorPure1
namespace Go.Proofs.YtcmhfjpofkgjbaaDoor
set_option linter.unusedSimpArgs false
set_option linter.unusedVariables false
set_option maxRecDepth 8000
/-- the place of a step in the order of sharps. -/
def ordZ (s : Int) : Int := if s = 0 then 1 else if s = 1 then 3 else if s = 2 then 5 else if s = 3 then 0 else if s = 4 then 2 else if s = 5 then 4 else 6
theorem ordZ_bd (s : Int) : 0 ≤ ordZ s ∧ ordZ s ≤ 6 := by unfold ordZ; (repeat' split) <;> omega
/-- the alteration of a step in a key. -/
def altZ (f s : Int) : Int := if ordZ s < f then 1 else if f < ordZ s - 6 then -1 else 0
theorem altZ_bd (f s : Int) : -1 ≤ altZ f s ∧ altZ f s ≤ 1 := by unfold altZ; (repeat' split) <;> omega
/-- a key. -/
def keyB (f : Int) : Bool := inB f (-7) 7
theorem keyB_iff {f : Int} : keyB f = true ↔ -7 ≤ f ∧ f ≤ 7 := inB_iff
/-- what KeyAlter answers. -/
def kaZ (f s : Int) : Int := if keyB f && inB s 0 6 then altZ f s else 0
/-- the step of the tonic. -/
def tonZ (f : Int) (m : Bool) : Int := if m then ((4 * f + 70) % 7 + 5) % 7 else (4 * f + 70) % 7
theorem tonZ_bd (f : Int) (m : Bool) : 0 ≤ tonZ f m ∧ tonZ f m ≤ 6 := by unfold tonZ; split <;> omega
/-- what InKey answers. -/
def ikB (f s a o : Int) : Bool := keyB f && pvB s a o && (a == altZ f s)
/-- does the tonic of the key have this step and this alteration? -/
def isTon (f : Int) (m : Bool) (s a : Int) : Bool := decide (tonZ f m = s) && decide (altZ f (tonZ f m) = a)
/-- what DegreeOf answers. -/
def dgZ (f : Int) (m : Bool) (s : Int) : Int := (s - tonZ f m) % 7
/-- No key below f has this tonic. -/
def noTon (m : Bool) (s a f : Int) : Prop := ∀ g, -7 ≤ g → g < f → isTon g m s a = false
theorem noTon_up {m : Bool} {s a f : Int} (h : noTon m s a f) (ht : isTon f m s a = false) : noTon m s a (f + 1) := fun g h1 h2 => by
  by_cases e : g = f
  · rw [e]; exact ht
  · exact h g h1 (by omega)

/- More plain facts for chapter 3: the program's table of alterations; scales; tonics. -/
/-- the program's table, from the most flats to the most sharps. -/
def altLL : List (List Int) := [[-1, -1, -1, -1, -1, -1, -1], [-1, -1, -1, 0, -1, -1, -1], [0, -1, -1, 0, -1, -1, -1], [0, -1, -1, 0, 0, -1, -1], [0, 0, -1, 0, 0, -1, -1], [0, 0, -1, 0, 0, 0, -1], [0, 0, 0, 0, 0, 0, -1], [0, 0, 0, 0, 0, 0, 0], [0, 0, 0, 1, 0, 0, 0], [1, 0, 0, 1, 0, 0, 0], [1, 0, 0, 1, 1, 0, 0], [1, 1, 0, 1, 1, 0, 0], [1, 1, 0, 1, 1, 1, 0], [1, 1, 1, 1, 1, 1, 0], [1, 1, 1, 1, 1, 1, 1]]
theorem altLL_at0 : ∀ i : Fin 15, ∀ j : Fin 7, altLL.flatten.getD (i.val * 7 + j.val) 0 = altZ ((i.val : Int) - 7) (j.val : Int) := by decide +kernel
theorem altLL_len : altLL.flatten.length = 105 := by decide +kernel
theorem altLL_at {f s : Int} (h0 : -7 ≤ f) (h1 : f ≤ 7) (s0 : 0 ≤ s) (s1 : s ≤ 6) : altLL.flatten.getD ((f + 7).toNat * 7 + s.toNat) 0 = altZ f s := by
  have := altLL_at0 ⟨(f + 7).toNat, by omega⟩ ⟨s.toNat, by omega⟩
  simp only at this
  rw [show (((f + 7).toNat : Nat) : Int) - 7 = f by omega, show ((s.toNat : Nat) : Int) = s by omega] at this
  exact this
/-- the tonic's step as the program reckons it. -/
theorem tonZ_prog0 (f : Int) : (4 * (f + 7)) % 7 = tonZ f false := by unfold tonZ; simp; omega
theorem tonZ_prog1 (f : Int) : (4 * (f + 7) + 5) % 7 = tonZ f true := by unfold tonZ; simp; omega
/-- A key has one tonic, and a tonic one key. -/
theorem ton_one0 : ∀ m : Bool, ∀ i j : Fin 15, isTon ((j.val : Int) - 7) m (tonZ ((i.val : Int) - 7) m) (altZ ((i.val : Int) - 7) (tonZ ((i.val : Int) - 7) m)) = decide (i = j) := by decide +kernel
theorem noTon_of {f : Int} {m : Bool} (h0 : -7 ≤ f) (h1 : f ≤ 7) : noTon m (tonZ f m) (altZ f (tonZ f m)) f := fun g g0 g1 => by
  have := ton_one0 m ⟨(f + 7).toNat, by omega⟩ ⟨(g + 7).toNat, by omega⟩
  simp only at this
  rw [show (((f + 7).toNat : Nat) : Int) - 7 = f by omega, show (((g + 7).toNat : Nat) : Int) - 7 = g by omega] at this
  rw [this]
  simp
  omega
theorem isTon_self (f : Int) (m : Bool) : isTon f m (tonZ f m) (altZ f (tonZ f m)) = true := by simp [isTon]
/-- A pitch is a tonic of some key, or of none. -/
theorem koCases (m : Bool) (s a : Int) : ∀ n : Nat, n ≤ 15 → (∃ f : Int, -7 ≤ f ∧ f ≤ 7 ∧ noTon m s a f ∧ isTon f m s a = true) ∨ noTon m s a ((n : Int) - 7)
  | 0, _ => Or.inr fun g h1 h2 => by simp at h2; omega
  | n + 1, hn => by
    rcases koCases m s a n (by omega) with h | h
    · exact Or.inl h
    · cases ht : isTon ((n : Int) - 7) m s a
      · have := noTon_up h ht
        exact Or.inr (by rw [show ((n + 1 : Nat) : Int) - 7 = (n : Int) - 7 + 1 by push_cast; omega]; exact this)
      · exact Or.inl ⟨_, by omega, by omega, h, ht⟩
theorem koCase (m : Bool) (s a : Int) : (∃ f : Int, -7 ≤ f ∧ f ≤ 7 ∧ noTon m s a f ∧ isTon f m s a = true) ∨ noTon m s a 8 := koCases m s a 15 (by omega)
/-- two finds are one. -/
theorem ko_one {m : Bool} {s a f g : Int} (f0 : -7 ≤ f) (g0 : -7 ≤ g) (h1 : noTon m s a f) (h2 : isTon f m s a = true) (h3 : noTon m s a g) (h4 : isTon g m s a = true) : f = g := by
  rcases Int.lt_trichotomy f g with h | h | h
  · have := h3 f f0 h; rw [h2] at this; cases this
  · exact h
  · have := h1 g g0 h; rw [h4] at this; cases this
/-- the pitches of a scale. -/
theorem scale_ok0 : ∀ m : Bool, ∀ i : Fin 15, ∀ j : Fin 8, pvB ((28 + tonZ ((i.val : Int) - 7) m + (j.val : Int)) % 7) (altZ ((i.val : Int) - 7) ((28 + tonZ ((i.val : Int) - 7) m + (j.val : Int)) % 7)) ((28 + tonZ ((i.val : Int) - 7) m + (j.val : Int)) / 7) = true := by decide +kernel
/-- how far the j-th pitch of a scale is above the one before. -/
def wantZ (m : Bool) (j : Int) : Int := if (m = false ∧ (j = 3 ∨ j = 7)) ∨ (m = true ∧ (j = 2 ∨ j = 5)) then 1 else 2
/-- the key of the j-th pitch of a scale. -/
def scK (f : Int) (m : Bool) (j : Int) : Int := keyZ ((28 + tonZ f m + j) % 7) (altZ f ((28 + tonZ f m + j) % 7)) ((28 + tonZ f m + j) / 7)
theorem scale_up0 : ∀ m : Bool, ∀ i : Fin 15, ∀ j : Fin 7, scK ((i.val : Int) - 7) m ((j.val : Int) + 1) - scK ((i.val : Int) - 7) m (j.val : Int) = wantZ m ((j.val : Int) + 1) := by decide +kernel
theorem scale_oct0 : ∀ m : Bool, ∀ i : Fin 15, scK ((i.val : Int) - 7) m 7 - scK ((i.val : Int) - 7) m 0 = 12 := by decide +kernel
theorem scale_ok {f j : Int} (m : Bool) (f0 : -7 ≤ f) (f1 : f ≤ 7) (j0 : 0 ≤ j) (j1 : j ≤ 7) : pvB ((28 + tonZ f m + j) % 7) (altZ f ((28 + tonZ f m + j) % 7)) ((28 + tonZ f m + j) / 7) = true := by
  have := scale_ok0 m ⟨(f + 7).toNat, by omega⟩ ⟨j.toNat, by omega⟩
  simp only at this
  rwa [show (((f + 7).toNat : Nat) : Int) - 7 = f by omega, show ((j.toNat : Nat) : Int) = j by omega] at this
theorem scale_up {f j : Int} (m : Bool) (f0 : -7 ≤ f) (f1 : f ≤ 7) (j0 : 1 ≤ j) (j1 : j ≤ 7) : scK f m j - scK f m (j - 1) = wantZ m j := by
  have := scale_up0 m ⟨(f + 7).toNat, by omega⟩ ⟨(j - 1).toNat, by omega⟩
  simp only at this
  rwa [show (((f + 7).toNat : Nat) : Int) - 7 = f by omega, show (((j - 1).toNat : Nat) : Int) = j - 1 by omega, show j - 1 + 1 = j by omega] at this
theorem scale_oct {f : Int} (m : Bool) (f0 : -7 ≤ f) (f1 : f ≤ 7) : scK f m 7 - scK f m 0 = 12 := by
  have := scale_oct0 m ⟨(f + 7).toNat, by omega⟩
  simp only at this
  rwa [show (((f + 7).toNat : Nat) : Int) - 7 = f by omega] at this
/-- the sum of the alterations of the first steps. -/
def sumA (f : Int) : Nat → Int
  | 0 => 0
  | k + 1 => sumA f k + altZ f (k : Int)
theorem sumA_bd (f : Int) : ∀ k : Nat, -(k : Int) ≤ sumA f k ∧ sumA f k ≤ k
  | 0 => by simp [sumA]
  | k + 1 => by have h1 := sumA_bd f k; have h2 := altZ_bd f k; simp only [sumA]; push_cast; omega
theorem sumA_70 : ∀ i : Fin 15, sumA ((i.val : Int) - 7) 7 = (i.val : Int) - 7 := by decide +kernel
theorem sumA_7 {f : Int} (f0 : -7 ≤ f) (f1 : f ≤ 7) : sumA f 7 = f := by
  have := sumA_70 ⟨(f + 7).toNat, by omega⟩
  simp only at this
  rwa [show (((f + 7).toNat : Nat) : Int) - 7 = f by omega] at this
theorem alt_sign0 : ∀ i : Fin 15, ∀ j : Fin 7, 0 ≤ altZ ((i.val : Int) - 7) (j.val : Int) * ((i.val : Int) - 7) := by decide +kernel
theorem alt_sign {f s : Int} (f0 : -7 ≤ f) (f1 : f ≤ 7) : 0 ≤ kaZ f s * f := by
  unfold kaZ
  split
  · rename_i h
    rw [Bool.and_eq_true] at h
    obtain ⟨s0, s1⟩ := inB_iff.1 h.2
    have := alt_sign0 ⟨(f + 7).toNat, by omega⟩ ⟨s.toNat, by omega⟩
    simp only at this
    rwa [show (((f + 7).toNat : Nat) : Int) - 7 = f by omega, show ((s.toNat : Nat) : Int) = s by omega] at this
  · simp
theorem kaZ_bd (f s : Int) : -1 ≤ kaZ f s ∧ kaZ f s ≤ 1 := by unfold kaZ; have := altZ_bd f s; split <;> omega
/-- the next key has each alteration, or one more. -/
theorem near_bd0 : ∀ i : Fin 14, ∀ j : Fin 7, 0 ≤ altZ ((i.val : Int) - 6) (j.val : Int) - altZ ((i.val : Int) - 7) (j.val : Int) ∧ altZ ((i.val : Int) - 6) (j.val : Int) - altZ ((i.val : Int) - 7) (j.val : Int) ≤ 1 := by decide +kernel
theorem near_bd {f s : Int} (f0 : -7 ≤ f) (f1 : f ≤ 6) (s0 : 0 ≤ s) (s1 : s ≤ 6) : 0 ≤ altZ (f + 1) s - altZ f s ∧ altZ (f + 1) s - altZ f s ≤ 1 := by
  have := near_bd0 ⟨(f + 7).toNat, by omega⟩ ⟨s.toNat, by omega⟩
  simp only at this
  rwa [show (((f + 7).toNat : Nat) : Int) - 7 = f by omega, show (((f + 7).toNat : Nat) : Int) - 6 = f + 1 by omega, show ((s.toNat : Nat) : Int) = s by omega] at this
end Go.Proofs.YtcmhfjpofkgjbaaDoor
