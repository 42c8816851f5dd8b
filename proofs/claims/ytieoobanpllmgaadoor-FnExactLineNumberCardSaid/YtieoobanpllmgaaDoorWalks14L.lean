/- Chapter 14 in the model: the faults of a line; good lines. -/
import Derived.Test.YtieoobanpllmgaaDoorWalks14S
import Derived.Test.YtieoobanpllmgaaDoorWalks12W
import Derived.Test.YtieoobanpllmgaaDoorRegionD
namespace Go.Proofs.YtieoobanpllmgaaDoor
set_option linter.unusedSimpArgs false
set_option linter.unusedVariables false
set_option maxRecDepth 8000
open Go.RowKit

theorem lf_cv {f : Int} {c l : List Pt} (h : cvB f c = false) : lfC f c l = false := by unfold lfC; rw [h]; rfl
theorem lf_ln {f : Int} {c l : List Pt} (h : l.length ≠ c.length) : lfC f c l = false := by unfold lfC; rw [decide_eq_false h]; simp
theorem lf_pv {f : Int} {c l : List Pt} {x : Pt} (hx : x ∈ l) (h : pvP x = false) : lfC f c l = false := by
  have : l.all pvP = false := by
    rw [← Bool.not_eq_true, List.all_eq_true]
    intro h2
    rw [h2 x hx] at h
    cases h
  unfold lfC; rw [this]; simp
theorem lf_yes {f : Int} {c l : List Pt} (h : cvB f c = true) (h1 : l.length = c.length) (h2 : ∀ x ∈ l, pvP x = true) : lfC f c l = true := lfC_iff.2 ⟨h, h1, h2⟩
theorem lfZ_no {f : Int} {c l : List Pt} (h : lfC f c l = false) : lfZ f c l = [] := by unfold lfZ; rw [h]; rfl
theorem lfZ_yes {f : Int} {c l : List Pt} (h : lfC f c l = true) : lfZ f c l = lfF f c l l.length := by unfold lfZ; rw [if_pos h]
theorem lgB_no {f : Int} {c l : List Pt} (h : lfC f c l = false) : lgB f c l = false := by unfold lgB; rw [h]; rfl
theorem cv_pv {f : Int} {c : List Pt} (h : cvB f c = true) : ∀ x ∈ c, pvP x = true := fun x hx => (ikP_iff.1 ((cvB_iff.1 h).1 x hx)).2.1
/-- The faults of the first tone, of a later tone. -/
theorem lf_first {f : Int} {c l : List Pt} {x p : Pt} (hx : c[0]? = some x) (hp : l[0]? = some p) : lfF f c l (0 + 1) = wfL (lfF f c l 0) ((0 : Nat) : Int) (oneZ f x p ((0 : Nat) : Int) l.length) := by
  rw [lfF_up]
  unfold wfL lfT lfA lfB
  rw [List.getD_eq_getElem?_getD, List.getD_eq_getElem?_getD, hx, hp]
  simp
theorem lf_next {f : Int} {c l : List Pt} {k : Nat} {x y p q : Pt} (hx : c[k]? = some x) (hp : l[k]? = some p) (hy : c[k + 1]? = some y) (hq : l[k + 1]? = some q) :
    lfF f c l (k + 1 + 1) = wfL (wfL (lfF f c l (k + 1)) ((k : Int) + 1) (oneZ f y q ((k : Int) + 1) l.length)) ((k : Int) + 1) (twoZ x p y q) := by
  rw [lfF_up]
  unfold wfL lfT lfA lfB
  rw [Nat.add_sub_cancel, List.getD_eq_getElem?_getD, List.getD_eq_getElem?_getD, List.getD_eq_getElem?_getD, List.getD_eq_getElem?_getD, hx, hp, hy, hq, if_neg (show ¬ k + 1 = 0 by omega)]
  simp only [Option.getD_some, List.append_assoc]
  rfl
theorem wf_zero {us : List (Int × Int)} {k c : Int} (h : c = 0) : wfL us k c = us := by unfold wfL; rw [if_pos h, List.append_nil]
theorem wf_more {us : List (Int × Int)} {k c : Int} (h : c ≠ 0) : tnC us ++ [.int .i64 k, .int .i64 c] = tnC (wfL us k c) ∧ us.length + 1 = (wfL us k c).length := by
  unfold wfL
  rw [if_neg h, tnC_snoc, List.length_append]; exact ⟨rfl, rfl⟩
theorem oneS_is {f : Int} {c p : Pt} {k n z : Int} (hc : pvP c = true) (hp : pvP p = true) (hk : 0 ≤ k ∧ k ≤ 1048576) (hn : 0 ≤ n ∧ n ≤ 1048576) (h : oneZ f c p k n = z) (W : World) :
    Calls Tryd.prog 57 #[.int .i64 f, .agg #[.int .i64 c.s, .int .i64 c.a, .int .i64 c.o], .agg #[.int .i64 p.s, .int .i64 p.a, .int .i64 p.o], .int .i64 k, .int .i64 n] W fun e w' => e = .returned (.int .i64 z) ∧ Below W.heap.size W w' := by
  subst h; exact oneS_any f c p k n W hc hp hk hn
theorem twoS_is {c p d q : Pt} {z : Int} (hc : pvP c = true) (hp : pvP p = true) (hd : pvP d = true) (hq : pvP q = true) (h : twoZ c p d q = z) (W : World) :
    Calls Tryd.prog 38 #[.agg #[.int .i64 c.s, .int .i64 c.a, .int .i64 c.o], .agg #[.int .i64 p.s, .int .i64 p.a, .int .i64 p.o], .agg #[.int .i64 d.s, .int .i64 d.a, .int .i64 d.o], .agg #[.int .i64 q.s, .int .i64 q.a, .int .i64 q.o]] W fun e w' => e = .returned (.int .i64 z) ∧ Below W.heap.size W w' := by
  subst h; exact twoS_any c p d q W hc hp hd hq