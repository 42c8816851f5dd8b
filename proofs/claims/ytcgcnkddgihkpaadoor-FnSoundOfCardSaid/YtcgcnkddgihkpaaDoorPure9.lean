/- Plain facts for chapter 9: instruments; what is written and what sounds; the first note outside. -/
import Derived.Test.YtcgcnkddgihkpaaDoorPure5c
namespace Go.Proofs.YtcgcnkddgihkpaaDoor
set_option linter.unusedSimpArgs false
set_option linter.unusedVariables false
set_option maxRecDepth 8000

def inVB (st ha lo hi : Int) : Bool := ivB st ha && (inB lo 0 107 && inB hi lo 107)
theorem inVB_iff {st ha lo hi : Int} : inVB st ha lo hi = true ↔ ivB st ha = true ∧ (0 ≤ lo ∧ lo ≤ 107) ∧ (lo ≤ hi ∧ hi ≤ 107) := by
  unfold inVB inB
  simp [and_assoc]
/-- what is written; what sounds. -/
def wfB (st ha lo hi : Int) (v : List Nt) : Bool := inVB st ha lo hi && shB v st ha
def wfL (st ha lo hi : Int) (v : List Nt) : List Nt := if inVB st ha lo hi then shL v st ha else []
def sfB (st ha lo hi : Int) (v : List Nt) : Bool := inVB st ha lo hi && shB v (-st) (-ha)
def sfL (st ha lo hi : Int) (v : List Nt) : List Nt := if inVB st ha lo hi then shL v (-st) (-ha) else []
theorem shL_is {v : List Nt} {st ha : Int} (h : shB v st ha = true) : shL v st ha = v.map (shX st ha) := by unfold shL; rw [if_pos h]
theorem shL_is0 {v : List Nt} {st ha : Int} (h : shB v st ha = false) : shL v st ha = [] := by unfold shL; rw [h]; rfl
theorem wf_no {st ha lo hi : Int} {v : List Nt} (h : wfB st ha lo hi v = false) : wfL st ha lo hi v = [] := by
  unfold wfL
  split
  · rename_i hv
    unfold wfB at h
    rw [hv, Bool.true_and] at h
    exact shL_is0 h
  · rfl
theorem sf_no {st ha lo hi : Int} {v : List Nt} (h : sfB st ha lo hi v = false) : sfL st ha lo hi v = [] := by
  unfold sfL
  split
  · rename_i hv
    unfold sfB at h
    rw [hv, Bool.true_and] at h
    exact shL_is0 h
  · rfl
/-- what is written sounds; what sounds is written. -/
theorem wf_back {st ha lo hi : Int} {v : List Nt} (h : wfB st ha lo hi v = true) : sfB st ha lo hi (wfL st ha lo hi v) = true ∧ sfL st ha lo hi (wfL st ha lo hi v) = v := by
  unfold wfB at h
  rw [Bool.and_eq_true] at h
  obtain ⟨h1, h2⟩ := h
  obtain ⟨b1, b2⟩ := sh_back h2
  unfold sfB sfL wfL
  rw [h1, if_pos rfl, if_pos rfl, shL_is h2, Bool.true_and]
  exact ⟨b1, by rw [shL_is b1, b2]⟩
theorem sf_back {st ha lo hi : Int} {v : List Nt} (h : sfB st ha lo hi v = true) : wfB st ha lo hi (sfL st ha lo hi v) = true ∧ wfL st ha lo hi (sfL st ha lo hi v) = v := by
  unfold sfB at h
  rw [Bool.and_eq_true] at h
  obtain ⟨h1, h2⟩ := h
  obtain ⟨b1, b2⟩ := sh_back h2
  rw [Int.neg_neg, Int.neg_neg] at b1 b2
  unfold wfB sfL wfL
  rw [h1, if_pos rfl, if_pos rfl, shL_is h2, Bool.true_and]
  exact ⟨b1, by rw [shL_is b1, b2]⟩
theorem shL_le (v : List Nt) (st ha : Int) : (shL v st ha).length ≤ v.length := by
  unfold shL
  split
  · simp
  · simp
theorem wfL_len (st ha lo hi : Int) (v : List Nt) : (wfL st ha lo hi v).length ≤ v.length := by
  unfold wfL
  split
  · exact shL_le _ _ _
  · exact Nat.zero_le _
theorem sfL_len (st ha lo hi : Int) (v : List Nt) : (sfL st ha lo hi v).length ≤ v.length := by
  unfold sfL
  split
  · exact shL_le _ _ _
  · exact Nat.zero_le _

/-- a note outside of the range; the number of the first one. -/
def outB (lo hi : Int) (x : Nt) : Bool := !x.r && !inB (keyZ x.s x.a x.o) lo hi
def rfF (lo hi : Int) : Nat → List Nt → Int
  | _, [] => -1
  | k, x :: l => if outB lo hi x then (k : Int) else rfF lo hi (k + 1) l
def rfZ (st ha lo hi : Int) (v : List Nt) : Int := if inVB st ha lo hi && voB v then rfF lo hi 0 v else -1
theorem rfF_at {lo hi : Int} {v : List Nt} {j : Nat} {x : Nt} (hx : v[j]? = some x) : rfF lo hi j (v.drop j) = if outB lo hi x then (j : Int) else rfF lo hi (j + 1) (v.drop (j + 1)) := by
  obtain ⟨hj, e⟩ := List.getElem?_eq_some_iff.1 hx
  rw [List.drop_eq_getElem_cons hj, e]
  rfl
theorem rfF_end {lo hi : Int} {v : List Nt} {j : Nat} (h : v.length ≤ j) : rfF lo hi j (v.drop j) = -1 := by
  rw [List.drop_eq_nil_of_le h]; rfl
theorem rfF_bd (lo hi : Int) : ∀ (l : List Nt) (k : Nat), -1 ≤ rfF lo hi k l ∧ rfF lo hi k l < k + l.length ∨ rfF lo hi k l = -1
  | [], k => Or.inr rfl
  | x :: l, k => by
    simp only [rfF]
    split
    · exact Or.inl ⟨by omega, by simp; omega⟩
    · rcases rfF_bd lo hi l (k + 1) with h | h
      · exact Or.inl ⟨h.1, by have := h.2; simp at this ⊢; omega⟩
      · exact Or.inr h
end Go.Proofs.YtcgcnkddgihkpaaDoor
