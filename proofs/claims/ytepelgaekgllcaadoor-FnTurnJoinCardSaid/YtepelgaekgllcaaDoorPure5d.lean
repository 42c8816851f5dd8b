/- Plain facts for chapter 5: the notes at the head of a voice that are one when its ties are joined. -/
import Derived.Test.YtepelgaekgllcaaDoorPure5b
namespace Go.Proofs.YtepelgaekgllcaaDoor
set_option linter.unusedSimpArgs false
set_option linter.unusedVariables false

/-- how many notes behind x are joined to it. -/
def gpN : Nt → List Nt → Nat
  | _, [] => 0
  | x, z :: l => if x.y = true ∧ x.t + z.t ≤ 768 then gpN (mergeN x z) l + 1 else 0
/-- what they are together. -/
def gpX : Nt → List Nt → Nt
  | x, [] => x
  | x, z :: l => if x.y = true ∧ x.t + z.t ≤ 768 then gpX (mergeN x z) l else x
theorem gpN_yes {x z : Nt} {l : List Nt} (h : x.y = true ∧ x.t + z.t ≤ 768) : gpN x (z :: l) = gpN (mergeN x z) l + 1 := by rw [gpN, if_pos h]
theorem gpN_no {x z : Nt} {l : List Nt} (h : ¬ (x.y = true ∧ x.t + z.t ≤ 768)) : gpN x (z :: l) = 0 := by rw [gpN, if_neg h]
theorem gpN_free {x : Nt} {l : List Nt} (h : x.y = false) : gpN x l = 0 := by
  cases l with
  | nil => rfl
  | cons z l => exact gpN_no (fun e => by rw [h] at e; cases e.1)
theorem joF_gp : ∀ (l : List Nt) (x : Nt), joF x l = gpX x l :: joL (l.drop (gpN x l))
  | [], _ => rfl
  | z :: l, x => by
    by_cases hm : x.y = true ∧ x.t + z.t ≤ 768
    · rw [joF_yes hm, gpN_yes hm, joF_gp l]
      unfold gpX
      rw [if_pos hm, List.drop_succ_cons]
      cases l <;> rfl
    · rw [joF_no hm, gpN_no hm]
      unfold gpX
      rw [if_neg hm]
      rfl
theorem gpN_len : ∀ (l : List Nt) (x : Nt), gpN x l ≤ l.length
  | [], _ => Nat.zero_le _
  | z :: l, x => by
    by_cases hm : x.y = true ∧ x.t + z.t ≤ 768
    · rw [gpN_yes hm]; have := gpN_len l (mergeN x z); simp only [List.length_cons]; omega
    · rw [gpN_no hm]; omega
theorem merge_last {x z : Nt} {l : List Nt} (h : tieB (x :: z :: l) = true) (hy : x.y = true) : mergeN x z = { z with t := x.t + z.t } := by
  obtain ⟨h1, h2, h3⟩ := tieB_cons.1 h
  have hr := tie_rest h1 hy
  have hl : z.r = false ∧ toneB x z = true := by simpa [linkB, hy] using h2
  obtain ⟨e1, e2, e3⟩ := toneB_iff.1 hl.2
  unfold mergeN
  rw [hr, e1, e2, e3, hl.1]
  try (cases x; cases z; simp_all)
theorem gp_last : ∀ (l : List Nt) (x : Nt), tieB (x :: l) = true → ∃ z, (x :: l)[gpN x l]? = some z ∧ gpX x l = { z with t := sumT ((x :: l).take (gpN x l + 1)) }
  | [], x, _ => ⟨x, rfl, by simp [gpX, gpN, sumT]⟩
  | z :: l, x, h => by
    by_cases hm : x.y = true ∧ x.t + z.t ≤ 768
    · rw [gpN_yes hm]
      have e : gpX x (z :: l) = gpX (mergeN x z) l := by rw [gpX, if_pos hm]
      rw [e]
      obtain ⟨u, h1, h2⟩ := gp_last l (mergeN x z) (merge_tie h hm.1 hm.2)
      rw [h2]
      cases hg : gpN (mergeN x z) l with
      | zero =>
        rw [hg] at h1
        simp at h1
        subst h1
        refine ⟨z, rfl, ?_⟩
        rw [merge_last h hm.1]
        simp [sumT]
      | succ g =>
        rw [hg] at h1
        refine ⟨u, by simpa using h1, ?_⟩
        congr 1
        simp only [List.take_succ_cons, sumT, mergeN]
        omega
    · rw [gpN_no hm]
      have e : gpX x (z :: l) = x := by rw [gpX, if_neg hm]
      rw [e]
      exact ⟨x, rfl, by simp [sumT]⟩
end Go.Proofs.YtepelgaekgllcaaDoor
