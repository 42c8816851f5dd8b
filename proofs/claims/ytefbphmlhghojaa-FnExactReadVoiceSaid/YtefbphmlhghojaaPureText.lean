/- Plain facts for chapter 1: texts of pitches. -/
import Derived.Test.YtefbphmlhghojaaPure1
namespace Go.Proofs.Ytefbphmlhghojaa
set_option linter.unusedSimpArgs false
set_option linter.unusedVariables false
/-- the letter of a step. -/
def letB (s : Int) : ByteArray := ({ data := #[67, 68, 69, 70, 71, 65, 66] } : ByteArray).extract s.toNat (s + 1).toNat
/-- so many times one sign. -/
def repB (c : UInt8) (k : Nat) : ByteArray := ⟨(List.replicate k c).toArray⟩
/-- the signs of an alteration. -/
def altB (a : Int) : ByteArray := if a < 0 then repB 98 (-a).toNat else repB 35 a.toNat
/-- the digit of an octave. -/
def octB (o : Int) : ByteArray := ⟨#[UInt8.ofNat (48 + o).toNat]⟩
def textB (s a o : Int) : ByteArray := if pvB s a o then (letB s ++ altB a) ++ octB o else ⟨#[]⟩
theorem str_eq {a b : ByteArray} (h : a = b) : (a.toList == b.toList) = true := by rw [h]; simp
theorem str_ne {a b : ByteArray} (h : a ≠ b) : (a.toList == b.toList) = false := by
  rw [ByteArray.toList_eq, ByteArray.toList_eq]
  simp only [beq_eq_false_iff_ne, ne_eq]
  intro e
  exact h (ByteArray.ext (Array.ext' e))
theorem letB_size {s : Int} (h0 : 0 ≤ s) (h6 : s ≤ 6) : (letB s).size = 1 := by
  rcases step7 h0 h6 with rfl | rfl | rfl | rfl | rfl | rfl | rfl <;> decide
theorem repB_size (c : UInt8) (k : Nat) : (repB c k).size = k := by simp [repB, ByteArray.size]
theorem repB_zero (c : UInt8) : repB c 0 = ⟨#[]⟩ := rfl
theorem app_nil (x : ByteArray) : x ++ (⟨#[]⟩ : ByteArray) = x := by
  apply ByteArray.ext
  simp [ByteArray.data_append]
theorem repB_succ (x : ByteArray) (c : UInt8) (k : Nat) : (x ++ repB c k) ++ (⟨#[c]⟩ : ByteArray) = x ++ repB c (k + 1) := by
  apply ByteArray.ext
  simp only [repB, ByteArray.data_append, List.replicate_succ']
  apply Array.ext'
  simp
theorem altB_size {a : Int} (h0 : -2 ≤ a) (h1 : a ≤ 2) : (altB a).size ≤ 2 := by
  unfold altB
  split
  · rw [repB_size]; omega
  · rw [repB_size]; omega
theorem alt_done {s a : Int} {k k2 : Nat} {T T2 : ByteArray} (h1 : T = letB s ++ repB 35 k) (h2 : T2 = T ++ repB 98 k2) (hk : (k : Int) = max a 0) (hk2 : (k2 : Int) = max (-a) 0) : T2 = letB s ++ altB a := by
  subst h1 h2
  unfold altB
  by_cases ha : a < 0
  · rw [if_pos ha, show k = 0 by omega, show k2 = (-a).toNat by omega, repB_zero, app_nil]
  · rw [if_neg ha, show k2 = 0 by omega, show k = a.toNat by omega, repB_zero, app_nil]
end Go.Proofs.Ytefbphmlhghojaa
