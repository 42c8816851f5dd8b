/- Plain facts for the promises of chapter 2. -/
import Derived.Test.YtllcokbnjlodbaaDoorPure2
namespace Go.Proofs.YtllcokbnjlodbaaDoor
set_option linter.unusedSimpArgs false
set_option linter.unusedVariables false

theorem halZ_at {p : Int} : natZ p = 12 * (p / 7) + halZ (p % 7) := rfl
theorem key_as {s a o : Int} (hv : pvB s a o = true) : keyZ s a o = natZ (7 * o + s) + a := by rw [keyZ, if_pos hv]

/-- The way from one pitch to another, added, leads there. -/
theorem of_add {s a o s' a' o' : Int} (hv : ofB s a o s' a' o' = true) :
    adB s a o (dpZ s o s' o') (keyZ s' a' o' - keyZ s a o) = true ∧ adP s o (dpZ s o s' o') % 7 = s' ∧ adA s a o (dpZ s o s' o') (keyZ s' a' o' - keyZ s a o) = a' ∧ adP s o (dpZ s o s' o') / 7 = o' := by
  unfold ofB at hv
  simp only [Bool.and_eq_true] at hv
  obtain ⟨⟨v1, v2⟩, v3⟩ := hv
  obtain ⟨⟨g1, g2⟩, ⟨g3, g4⟩, ⟨g5, g6⟩⟩ := pvB_iff.1 v2
  have e0 : adP s o (dpZ s o s' o') = 7 * o' + s' := by unfold adP dpZ; omega
  have e1 : adP s o (dpZ s o s' o') % 7 = s' := by rw [e0]; omega
  have e2 : adP s o (dpZ s o s' o') / 7 = o' := by rw [e0]; omega
  have e3 : adA s a o (dpZ s o s' o') (keyZ s' a' o' - keyZ s a o) = a' := by
    unfold adA; rw [e0]; have := key_as v2; omega
  refine ⟨?_, e1, e3, e2⟩
  unfold adB
  simp only [Bool.and_eq_true, decide_eq_true_eq]
  refine ⟨⟨⟨v1, v3⟩, by rw [e0]; omega⟩, ?_⟩
  rw [e1, e2, e3]; exact v2

/-- The way back is the way with both signs changed. -/
theorem of_back {s a o s' a' o' : Int} (hv : ofB s a o s' a' o' = true) : ofB s' a' o' s a o = true ∧ dpZ s' o' s o = -dpZ s o s' o' ∧ keyZ s a o - keyZ s' a' o' = -(keyZ s' a' o' - keyZ s a o) := by
  unfold ofB at hv ⊢
  simp only [Bool.and_eq_true] at hv ⊢
  obtain ⟨⟨v1, v2⟩, v3⟩ := hv
  have e1 : dpZ s' o' s o = -dpZ s o s' o' := by unfold dpZ; omega
  have e2 : keyZ s a o - keyZ s' a' o' = -(keyZ s' a' o' - keyZ s a o) := by omega
  exact ⟨⟨⟨v2, v1⟩, by rw [e1, e2, ivB_neg]; exact v3⟩, e1, e2⟩

/-- Between both pitches lies the way that was added; and it leads back. -/
theorem ad_of {s a o st ha x y z : Int} (hv : adB s a o st ha = true) (hx : adP s o st % 7 = x) (hy : adA s a o st ha = y) (hz : adP s o st / 7 = z) :
    ofB s a o x y z = true ∧ dpZ s o x z = st ∧ keyZ x y z - keyZ s a o = ha := by
  unfold adB at hv
  simp only [Bool.and_eq_true, decide_eq_true_eq] at hv
  obtain ⟨⟨⟨v1, v2⟩, v3⟩, v4⟩ := hv
  rw [hx, hy, hz] at v4
  have e0 : 7 * z + x = adP s o st := by omega
  have e1 : dpZ s o x z = st := by unfold dpZ; rw [e0]; unfold adP; omega
  have e2 : keyZ x y z - keyZ s a o = ha := by
    rw [key_as v4, e0, ← hy]; unfold adA; omega
  refine ⟨?_, e1, e2⟩
  unfold ofB
  simp only [Bool.and_eq_true]
  rw [e1, e2]
  exact ⟨⟨v1, v4⟩, v2⟩

theorem qu_bd {st ha : Int} (hv : ivB st ha = true) : -3 ≤ quZ st ha ∧ quZ st ha ≤ 3 := (ivB_iff.1 hv).2.2

/-- An octave more is valid, and has the same quality. -/
theorem iv_up {st ha : Int} (hv : ivB st ha = true) (h1 : 1 ≤ st) (h2 : st ≤ 14) : ivB (st + 7) (ha + 12) = true ∧ quZ (st + 7) (ha + 12) = quZ st ha := by
  obtain ⟨⟨a1, a2⟩, ⟨b1, b2⟩, ⟨c1, c2⟩⟩ := ivB_iff.1 hv
  have e := quZ_up (ha := ha) h1
  refine ⟨ivB_iff.2 ⟨by omega, ?_, by omega⟩, e⟩
  have nb := natZ_bd (p := st) (by omega)
  unfold quZ at c1 c2
  rw [if_neg (by omega)] at c1 c2
  omega

/-- Rests make octaves. -/
theorem re_back {st ha : Int} (hv : reB st ha = true) : reB (7 - st) (12 - ha) = true := by
  unfold reB at hv ⊢
  simp only [Bool.and_eq_true, inB_iff] at hv ⊢
  rw [show 7 - (7 - st) = st by omega, show 12 - (12 - ha) = ha by omega]
  exact ⟨⟨hv.2, by omega⟩, hv.1.1⟩
end Go.Proofs.YtllcokbnjlodbaaDoor
