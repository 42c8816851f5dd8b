/- Plain facts for chapter 1: what the model's loops find in a text. -/
import Derived.Test.YtefbphmlhghojaaPureRead
namespace Go.Proofs.Ytefbphmlhghojaa
set_option linter.unusedSimpArgs false
set_option linter.unusedVariables false
/-- the letter's byte as a number. -/
def ltZ (k : Int) : Int := ((ltU k).toNat : Int)
/-- the last letter that is the first byte, among the first k. -/
def st1 (s : ByteArray) : Nat → Int
  | 0 => -1
  | k + 1 => if ltZ k = byZ s 0 then k else st1 s k
/-- alteration and octave behind the bytes before place k + 1. -/
def rfA (s : ByteArray) : Nat → Int
  | 0 => 0
  | k + 1 => if byZ s (k + 1) = 35 then rfA s k + 1 else if byZ s (k + 1) = 98 then rfA s k - 1 else rfA s k
def rfO (s : ByteArray) : Nat → Int
  | 0 => 0
  | k + 1 => if byZ s (k + 1) = 35 then rfO s k else if byZ s (k + 1) = 98 then rfO s k else byZ s (k + 1) - 48
def mm (s : ByteArray) : Nat := min s.size 5 - 1
theorem st1_bd (s : ByteArray) : ∀ k, -1 ≤ st1 s k ∧ st1 s k < k
  | 0 => by simp [st1]
  | k + 1 => by
    have := st1_bd s k
    unfold st1
    split <;> omega
theorem fA_bd (s : ByteArray) : ∀ k : Nat, -(k : Int) ≤ rfA s k ∧ rfA s k ≤ k
  | 0 => by simp [rfA]
  | k + 1 => by
    have := fA_bd s k
    unfold rfA
    (repeat' split) <;> omega
theorem fO_bd (s : ByteArray) : ∀ k : Nat, -48 ≤ rfO s k ∧ rfO s k ≤ 207
  | 0 => by simp [rfO]
  | k + 1 => by
    have := fO_bd s k
    have := byZ_bd s (k + 1)
    unfold rfO
    (repeat' split) <;> omega
theorem byZ_mk (l : UInt8) (r : List UInt8) (k : Nat) : byZ ⟨(l :: r).toArray⟩ (k + 1) = byZ ⟨r.toArray⟩ k := rfl
theorem dg_ne {o : Int} (h0 : 0 ≤ o) (h8 : o ≤ 8) : ((dgU o).toNat : Int) ≠ 35 ∧ ((dgU o).toNat : Int) ≠ 98 := by
  rw [dg_to h0 h8]; omega
theorem st1_text {x : Int} (l : UInt8) (r : List UInt8) (h0 : 0 ≤ x) (h6 : x ≤ 6) (hl : l = ltU x) : st1 ⟨(l :: r).toArray⟩ 7 = x := by
  have e : byZ ⟨(l :: r).toArray⟩ 0 = ltZ x := by rw [hl]; rfl
  simp only [st1, e]
  rcases step7 h0 h6 with rfl | rfl | rfl | rfl | rfl | rfl | rfl <;> decide
theorem f_text {a o : Int} (l : UInt8) (h3 : -2 ≤ a) (h4 : a ≤ 2) (h0 : 0 ≤ o) (h8 : o ≤ 8) :
    rfA ⟨(l :: (alL a ++ [dgU o])).toArray⟩ (mm ⟨(l :: (alL a ++ [dgU o])).toArray⟩) = a ∧ rfO ⟨(l :: (alL a ++ [dgU o])).toArray⟩ (mm ⟨(l :: (alL a ++ [dgU o])).toArray⟩) = o := by
  have hd := dg_to h0 h8
  have e0 : ∀ d : UInt8, byZ ⟨[l, d].toArray⟩ 1 = d.toNat := fun _ => rfl
  rcases alt5 h3 h4 with rfl | rfl | rfl | rfl | rfl
  · have em : mm ⟨(l :: (alL (-2) ++ [dgU o])).toArray⟩ = 3 := rfl
    rw [em]
    have b1 : byZ ⟨(l :: (alL (-2) ++ [dgU o])).toArray⟩ 1 = 98 := rfl
    have b2 : byZ ⟨(l :: (alL (-2) ++ [dgU o])).toArray⟩ 2 = 98 := rfl
    have b3 : byZ ⟨(l :: (alL (-2) ++ [dgU o])).toArray⟩ 3 = 48 + o := hd
    simp only [rfA, rfO, b1, b2, b3]
    constructor
    · rw [if_neg (by omega), if_neg (by omega)]; decide
    · rw [if_neg (by omega), if_neg (by omega)]; omega
  · have em : mm ⟨(l :: (alL (-1) ++ [dgU o])).toArray⟩ = 2 := rfl
    rw [em]
    have b1 : byZ ⟨(l :: (alL (-1) ++ [dgU o])).toArray⟩ 1 = 98 := rfl
    have b2 : byZ ⟨(l :: (alL (-1) ++ [dgU o])).toArray⟩ 2 = 48 + o := hd
    simp only [rfA, rfO, b1, b2]
    constructor
    · rw [if_neg (by omega), if_neg (by omega)]; decide
    · rw [if_neg (by omega), if_neg (by omega)]; omega
  · have em : mm ⟨(l :: (alL 0 ++ [dgU o])).toArray⟩ = 1 := rfl
    rw [em]
    have b1 : byZ ⟨(l :: (alL 0 ++ [dgU o])).toArray⟩ 1 = 48 + o := hd
    simp only [rfA, rfO, b1]
    constructor
    · rw [if_neg (by omega), if_neg (by omega)]
    · rw [if_neg (by omega), if_neg (by omega)]; omega
  · have em : mm ⟨(l :: (alL 1 ++ [dgU o])).toArray⟩ = 2 := rfl
    rw [em]
    have b1 : byZ ⟨(l :: (alL 1 ++ [dgU o])).toArray⟩ 1 = 35 := rfl
    have b2 : byZ ⟨(l :: (alL 1 ++ [dgU o])).toArray⟩ 2 = 48 + o := hd
    simp only [rfA, rfO, b1, b2]
    constructor
    · rw [if_neg (by omega), if_neg (by omega)]; decide
    · rw [if_neg (by omega), if_neg (by omega)]; omega
  · have em : mm ⟨(l :: (alL 2 ++ [dgU o])).toArray⟩ = 3 := rfl
    rw [em]
    have b1 : byZ ⟨(l :: (alL 2 ++ [dgU o])).toArray⟩ 1 = 35 := rfl
    have b2 : byZ ⟨(l :: (alL 2 ++ [dgU o])).toArray⟩ 2 = 35 := rfl
    have b3 : byZ ⟨(l :: (alL 2 ++ [dgU o])).toArray⟩ 3 = 48 + o := hd
    simp only [rfA, rfO, b1, b2, b3]
    constructor
    · rw [if_neg (by omega), if_neg (by omega)]; decide
    · rw [if_neg (by omega), if_neg (by omega)]; omega

/-- The model finds what the program finds. -/
theorem found {s : ByteArray} (h0 : 0 < s.size) : (textB (st1 s 7) (rfA s (mm s)) (rfO s (mm s)) = s → rdOk s = true ∧ stI (byZ s 0) = st1 s 7 ∧ alZ (midB s) = rfA s (mm s) ∧ byZ s (s.size - 1) - 48 = rfO s (mm s)) ∧
    (textB (st1 s 7) (rfA s (mm s)) (rfO s (mm s)) ≠ s → rdOk s = false) := by
  constructor
  · intro h
    by_cases hv : pvB (st1 s 7) (rfA s (mm s)) (rfO s (mm s)) = true
    · obtain ⟨r1, r2, r3, r4, _⟩ := read_text hv
      rw [h] at r1 r2 r3 r4
      exact ⟨r1, r2, r3, r4⟩
    · rw [textB, if_neg hv] at h
      rw [← h] at h0
      exact absurd h0 (by decide)
  · intro h
    rw [← Bool.not_eq_true]
    intro hr
    apply h
    have ht := text_read hr
    unfold rdOk at hr
    simp only [Bool.and_eq_true] at hr
    have hv := hr.2
    obtain ⟨⟨h1, h2⟩, ⟨h3, h4⟩, ⟨h5, h6⟩⟩ := pvB_iff.1 hv
    revert ht h1 h2 h3 h4 h5 h6 hv
    generalize stI (byZ s 0) = x
    generalize alZ (midB s) = a
    generalize byZ s (s.size - 1) - 48 = o
    intro ht hv h1 h2 h3 h4 h5 h6
    have e : textB x a o = ⟨(ltU x :: (alL a ++ [dgU o])).toArray⟩ := by rw [textB, if_pos hv, text_mk h1 h2]
    rw [← ht, e]
    obtain ⟨p1, p2⟩ := f_text (ltU x) h3 h4 h5 h6
    rw [p1, p2, st1_text (ltU x) _ h1 h2 rfl, e]
theorem getLast_alt {a : Int} {l : List UInt8} {d : UInt8} (h : l ++ [d] = alL a) : d = 98 ∨ d = 35 := by
  have hm : d ∈ alL a := by rw [← h]; simp
  unfold alL at hm
  split at hm
  · exact Or.inl (List.eq_of_mem_replicate hm)
  · exact Or.inr (List.eq_of_mem_replicate hm)
/-- With a byte more behind its digit a text can't be read. -/
theorem more_bad {s : ByteArray} (hr : rdOk s = true) : rdOk (s ++ (⟨#[52]⟩ : ByteArray)) = false := by
  have ht := text_read hr
  unfold rdOk at hr
  simp only [Bool.and_eq_true] at hr
  have hv := hr.2
  obtain ⟨⟨h1, h2⟩, ⟨h3, h4⟩, ⟨h5, h6⟩⟩ := pvB_iff.1 hv
  revert ht h1 h2 h3 h4 h5 h6 hv
  generalize stI (byZ s 0) = x
  generalize alZ (midB s) = a
  generalize byZ s (s.size - 1) - 48 = o
  intro ht hv h1 h2 h3 h4 h5 h6
  have e : textB x a o = ⟨(ltU x :: (alL a ++ [dgU o])).toArray⟩ := by rw [textB, if_pos hv, text_mk h1 h2]
  have e2 : s ++ (⟨#[52]⟩ : ByteArray) = ⟨(ltU x :: ((alL a ++ [dgU o]) ++ [52])).toArray⟩ := by
    rw [← ht, e]
    have := ByteArray.mk_append_mk (ltU x :: (alL a ++ [dgU o])) [52]
    simpa using this
  obtain ⟨p1, p2, p3, p4⟩ := parts (ltU x) 52 (alL a ++ [dgU o])
  rw [← Bool.not_eq_true]
  intro hr2
  rw [e2] at hr2
  unfold rdOk at hr2
  simp only [Bool.and_eq_true] at hr2
  obtain ⟨_, ⟨g3, g4⟩, _⟩ := pvB_iff.1 hr2.2
  rw [p4] at g3 g4
  have hm := alZ_eq g4
  rw [altB_mk] at hm
  have hA : alL a ++ [dgU o] = alL (alZ ⟨(alL a ++ [dgU o]).toArray⟩) := by
    have := congrArg (fun b : ByteArray => b.data.toList) hm
    simpa using this
  have hd := dg_ne h5 h6
  rcases getLast_alt hA with h | h
  · rw [h] at hd; exact hd.2 rfl
  · rw [h] at hd; exact hd.1 rfl
end Go.Proofs.Ytefbphmlhghojaa
