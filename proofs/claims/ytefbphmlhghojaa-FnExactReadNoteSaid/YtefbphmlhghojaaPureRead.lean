/- Plain facts for chapter 1: reading texts of pitches. -/
import Derived.Test.YtefbphmlhghojaaPureText
import Derived.Lib.Bytealg
namespace Go.Proofs.Ytefbphmlhghojaa
set_option linter.unusedSimpArgs false
set_option linter.unusedVariables false
/-- the byte at a place of a text. -/
def byZ (s : ByteArray) (i : Nat) : Int := ((s.data.toList.getD i 0).toNat : Int)
/-- what stands between the first and the last byte. -/
def midB (s : ByteArray) : ByteArray := s.extract 1 (s.size - 1)
/-- the alteration that signs tell, or 3. -/
def alZ (m : ByteArray) : Int := if m = altB (-2) then -2 else if m = altB (-1) then -1 else if m = altB 0 then 0 else if m = altB 1 then 1 else if m = altB 2 then 2 else 3
def stI (c : Int) : Int := Lib.indexByte [67, 68, 69, 70, 71, 65, 66] c.toNat.toUInt8
def rdOk (s : ByteArray) : Bool := decide (2 ≤ s.size) && pvB (stI (byZ s 0)) (alZ (midB s)) (byZ s (s.size - 1) - 48)

theorem byZ_bd (s : ByteArray) (i : Nat) : 0 ≤ byZ s i ∧ byZ s i ≤ 255 := by
  unfold byZ
  have := (s.data.toList.getD i 0).toNat_lt
  omega
theorem alt5 {a : Int} (h0 : -2 ≤ a) (h1 : a ≤ 2) : a = -2 ∨ a = -1 ∨ a = 0 ∨ a = 1 ∨ a = 2 := by omega
theorem oct9 {o : Int} (h0 : 0 ≤ o) (h1 : o ≤ 8) : o = 0 ∨ o = 1 ∨ o = 2 ∨ o = 3 ∨ o = 4 ∨ o = 5 ∨ o = 6 ∨ o = 7 ∨ o = 8 := by omega
theorem alZ_alt {a : Int} (h0 : -2 ≤ a) (h1 : a ≤ 2) : alZ (altB a) = a := by
  rcases alt5 h0 h1 with rfl | rfl | rfl | rfl | rfl <;> decide
theorem alZ_eq {m : ByteArray} (h : alZ m ≤ 2) : m = altB (alZ m) := by
  by_cases h1 : m = altB (-2)
  · have e : alZ m = -2 := by unfold alZ; rw [if_pos h1]
    rw [e]; exact h1
  by_cases h2 : m = altB (-1)
  · have e : alZ m = -1 := by unfold alZ; rw [if_neg h1, if_pos h2]
    rw [e]; exact h2
  by_cases h3 : m = altB 0
  · have e : alZ m = 0 := by unfold alZ; rw [if_neg h1, if_neg h2, if_pos h3]
    rw [e]; exact h3
  by_cases h4 : m = altB 1
  · have e : alZ m = 1 := by unfold alZ; rw [if_neg h1, if_neg h2, if_neg h3, if_pos h4]
    rw [e]; exact h4
  by_cases h5 : m = altB 2
  · have e : alZ m = 2 := by unfold alZ; rw [if_neg h1, if_neg h2, if_neg h3, if_neg h4, if_pos h5]
    rw [e]; exact h5
  · have e : alZ m = 3 := by unfold alZ; rw [if_neg h1, if_neg h2, if_neg h3, if_neg h4, if_neg h5]
    omega
theorem alZ_at {m : ByteArray} {a : Int} (h0 : -2 ≤ a) (h1 : a ≤ 2) (h : m = altB a) : alZ m = a := by rw [h, alZ_alt h0 h1]
theorem alZ_no {m : ByteArray} (h : ∀ a : Int, -2 ≤ a → a < 3 → m ≠ altB a) : alZ m = 3 := by
  unfold alZ
  rw [if_neg (h (-2) (by omega) (by omega)), if_neg (h (-1) (by omega) (by omega)), if_neg (h 0 (by omega) (by omega)), if_neg (h 1 (by omega) (by omega)), if_neg (h 2 (by omega) (by omega))]
theorem alZ_bd (m : ByteArray) : -2 ≤ alZ m ∧ alZ m ≤ 3 := by
  unfold alZ
  (repeat' split) <;> omega
/-- the letter's byte; the signs' bytes; the digit's byte. -/
def ltU (x : Int) : UInt8 := [67, 68, 69, 70, 71, 65, 66].getD x.toNat 0
def alL (a : Int) : List UInt8 := if a < 0 then List.replicate (-a).toNat 98 else List.replicate a.toNat 35
def dgU (o : Int) : UInt8 := UInt8.ofNat (48 + o).toNat
theorem letB_mk {x : Int} (h0 : 0 ≤ x) (h6 : x ≤ 6) : letB x = ⟨[ltU x].toArray⟩ := by
  rcases step7 h0 h6 with rfl | rfl | rfl | rfl | rfl | rfl | rfl <;> rfl
theorem altB_mk (a : Int) : altB a = ⟨(alL a).toArray⟩ := by
  unfold altB alL repB
  split <;> rfl
theorem octB_mk (o : Int) : octB o = ⟨[dgU o].toArray⟩ := rfl
theorem text_mk {x a o : Int} (h0 : 0 ≤ x) (h6 : x ≤ 6) : (letB x ++ altB a) ++ octB o = ⟨(ltU x :: (alL a ++ [dgU o])).toArray⟩ := by
  rw [letB_mk h0 h6, altB_mk, octB_mk, ByteArray.mk_append_mk, ByteArray.mk_append_mk]
  simp
theorem parts (l d : UInt8) (A : List UInt8) : (⟨(l :: (A ++ [d])).toArray⟩ : ByteArray).size = A.length + 2 ∧ byZ ⟨(l :: (A ++ [d])).toArray⟩ 0 = l.toNat ∧
    byZ ⟨(l :: (A ++ [d])).toArray⟩ ((⟨(l :: (A ++ [d])).toArray⟩ : ByteArray).size - 1) = d.toNat ∧ midB ⟨(l :: (A ++ [d])).toArray⟩ = ⟨A.toArray⟩ := by
  have hs : (⟨(l :: (A ++ [d])).toArray⟩ : ByteArray).size = A.length + 2 := by simp [ByteArray.size]
  refine ⟨hs, rfl, ?_, ?_⟩
  · rw [hs]
    simp [byZ]
  · unfold midB
    rw [hs]
    apply ByteArray.ext
    apply Array.ext'
    simp [ByteArray.data_extract]
theorem split_ends (s : ByteArray) (h : 2 ≤ s.size) : ∃ l A d, s = ⟨(l :: (A ++ [d])).toArray⟩ := by
  obtain ⟨⟨L⟩⟩ := s
  have hl : 2 ≤ L.length := h
  match L, hl with
  | l :: r, hl =>
    have hr : r ≠ [] := by intro e; subst e; simp at hl
    exact ⟨l, r.dropLast, r.getLast hr, by rw [List.dropLast_concat_getLast hr]⟩
theorem stI_lt {x : Int} (h0 : 0 ≤ x) (h6 : x ≤ 6) : stI ((ltU x).toNat : Int) = x := by
  rcases step7 h0 h6 with rfl | rfl | rfl | rfl | rfl | rfl | rfl <;> decide
theorem stI_inv {l : UInt8} (h : 0 ≤ stI (l.toNat : Int)) : ltU (stI (l.toNat : Int)) = l := by
  have e : ((l.toNat : Int).toNat).toUInt8 = l := by simp
  unfold stI at h ⊢
  rw [e] at h ⊢
  by_cases h1 : (67 : UInt8) = l
  · subst h1; decide
  by_cases h2 : (68 : UInt8) = l
  · subst h2; decide
  by_cases h3 : (69 : UInt8) = l
  · subst h3; decide
  by_cases h4 : (70 : UInt8) = l
  · subst h4; decide
  by_cases h5 : (71 : UInt8) = l
  · subst h5; decide
  by_cases h6 : (65 : UInt8) = l
  · subst h6; decide
  by_cases h7 : (66 : UInt8) = l
  · subst h7; decide
  · simp [Lib.indexByte, h1, h2, h3, h4, h5, h6, h7] at h
theorem stI_bd (c : Int) : -1 ≤ stI c ∧ stI c ≤ 6 := by
  unfold stI
  generalize c.toNat.toUInt8 = l
  by_cases h1 : (67 : UInt8) = l
  · subst h1; decide
  by_cases h2 : (68 : UInt8) = l
  · subst h2; decide
  by_cases h3 : (69 : UInt8) = l
  · subst h3; decide
  by_cases h4 : (70 : UInt8) = l
  · subst h4; decide
  by_cases h5 : (71 : UInt8) = l
  · subst h5; decide
  by_cases h6 : (65 : UInt8) = l
  · subst h6; decide
  by_cases h7 : (66 : UInt8) = l
  · subst h7; decide
  · simp [Lib.indexByte, h1, h2, h3, h4, h5, h6, h7]
theorem dg_of {d : UInt8} {o : Int} (h : (d.toNat : Int) - 48 = o) : dgU o = d := by
  unfold dgU
  rw [show (48 + o).toNat = d.toNat by omega]
  simp
theorem dg_to {o : Int} (h0 : 0 ≤ o) (h8 : o ≤ 8) : ((dgU o).toNat : Int) = 48 + o := by
  rcases oct9 h0 h8 with rfl | rfl | rfl | rfl | rfl | rfl | rfl | rfl | rfl <;> decide

/-- What is read is the text's pitch. -/
theorem read_text {x a o : Int} (hv : pvB x a o = true) : rdOk (textB x a o) = true ∧ stI (byZ (textB x a o) 0) = x ∧ alZ (midB (textB x a o)) = a ∧ byZ (textB x a o) ((textB x a o).size - 1) - 48 = o ∧ (textB x a o).size = 2 + a.natAbs := by
  obtain ⟨⟨h1, h2⟩, ⟨h3, h4⟩, ⟨h5, h6⟩⟩ := pvB_iff.1 hv
  have e : textB x a o = ⟨(ltU x :: (alL a ++ [dgU o])).toArray⟩ := by rw [textB, if_pos hv, text_mk h1 h2]
  obtain ⟨p1, p2, p3, p4⟩ := parts (ltU x) (dgU o) (alL a)
  have q1 : stI (byZ (textB x a o) 0) = x := by rw [e, p2, stI_lt h1 h2]
  have q2 : alZ (midB (textB x a o)) = a := by rw [e, p4, ← altB_mk, alZ_alt h3 h4]
  have q3 : byZ (textB x a o) ((textB x a o).size - 1) - 48 = o := by rw [e, p3, dg_to h5 h6]; omega
  have q4 : (textB x a o).size = 2 + a.natAbs := by
    rw [e, p1, alL]
    split <;> simp <;> omega
  refine ⟨?_, q1, q2, q3, q4⟩
  unfold rdOk
  rw [q1, q2, q3, hv, q4]
  simp
/-- A text that can be read is the text of what is read. -/
theorem text_read {s : ByteArray} (h : rdOk s = true) : textB (stI (byZ s 0)) (alZ (midB s)) (byZ s (s.size - 1) - 48) = s := by
  unfold rdOk at h
  simp only [Bool.and_eq_true, decide_eq_true_eq] at h
  obtain ⟨hs, hv⟩ := h
  obtain ⟨⟨h1, h2⟩, ⟨h3, h4⟩, ⟨h5, h6⟩⟩ := pvB_iff.1 hv
  rw [textB, if_pos hv, text_mk h1 h2]
  obtain ⟨l, A, d, rfl⟩ := split_ends s hs
  obtain ⟨p1, p2, p3, p4⟩ := parts l d A
  rw [p2] at h1 ⊢
  rw [p3] at h5 ⊢
  have hm := alZ_eq (m := midB ⟨(l :: (A ++ [d])).toArray⟩) (by omega)
  rw [p4] at hm ⊢
  rw [altB_mk] at hm
  have hA : A = alL (alZ ⟨A.toArray⟩) := by
    have := congrArg (fun b : ByteArray => b.data.toList) hm
    simpa using this
  rw [stI_inv h1, dg_of rfl, ← hA]
end Go.Proofs.Ytefbphmlhghojaa
