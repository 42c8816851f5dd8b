/- Integers that came in, in slices. -/
import Derived.Test.YtfiodejbeeblgaaDoorLaw
import Derived.Test.YtfiodejbeeblgaaDoorLawBytes
import Derived.Test.YtfiodejbeeblgaaDoorIntC
import Derived.Deep.Slices
import Derived.ChangeArms
import Derived.ChangeSlices
import Derived.SliceStrings
namespace Go.Proofs.YtfiodejbeeblgaaDoor
set_option linter.unusedSimpArgs false
set_option linter.unusedVariables false
set_option maxRecDepth 8000
open Go.ChangeShapes Go.WideShapes Go.ChangeAt Go.RowKit Go.Joins

theorem cellsOf_intN : Tryd.prog.cellsOf 3 = 1 := by kernel_rfl
theorem cell_ltN {w : World} {a : Addr} {v : Value} (h : w.cell? a = some v) : a.block < w.heap.size := by
  rcases Nat.lt_or_ge a.block w.heap.size with h' | h'
  · exact h'
  · unfold World.cell? at h
    rw [Array.getElem?_eq_none h'] at h
    cases h
/-- A slice of integers that came in. -/
theorem ints_in {H : Type} {enc : TypeId × Value → H} {W : World} {base : Nat} {v : Value} {d : DataW H} {p : List MemPlace}
    (hv : Value.okWide Tryd.prog W .any base 34 v) (h : DataW.Trod enc Tryd.prog W 0 (fun _ => true) true 34 v d p) :
    ∃ l : List Int, l.length ≤ maxLen ∧ (∀ x ∈ l, i64b x) ∧ IntsIn W v l := by
  obtain ⟨a0, len0, cap0, rfl⟩ := okWide_slice Tryd.underlying34 hv
  obtain ⟨fuel, hf⟩ := h
  rcases open_ints Tryd.underlying34 Tryd.underlying3 cellsOf_intN hf with ⟨hcs, _⟩ | ⟨a, len, cap, zs, hcs, _, hl, hm, hz, _, hcell, hwz⟩
  · simp [Value.cells] at hcs
    obtain ⟨rfl, rfl, rfl⟩ := hcs
    exact ⟨[], Nat.zero_le _, fun n hn => (by cases hn), Or.inl ⟨rfl, _, _, rfl⟩⟩
  · simp [Value.cells] at hcs
    obtain ⟨rfl, rfl, rfl⟩ := hcs
    simp only [if_true] at hz
    have htl : (zs.take len0).length = len0 := by rw [List.length_take]; omega
    refine ⟨zs.take len0, by omega, fun n hn => wf64 (hwz n (List.mem_of_mem_take hn)), ?_⟩
    by_cases h0 : len0 = 0
    · subst h0
      exact Or.inl ⟨by simp, _, _, rfl⟩
    · obtain ⟨b, off, spot⟩ := a
      have c0 := hcell 0 (by omega)
      have hspot : spot = none := by simpa [Addr.add] using World.cell?_spot c0
      subst hspot
      have hb : b < W.heap.size := by simpa [Addr.add] using cell_ltN c0
      refine Or.inr ⟨by rw [intC_len, htl]; omega, ?_⟩
      rw [htl]
      refine Or.inr ⟨b, off, cap0, rfl, hl, hm, hb, fun j u hj => ?_⟩
      obtain ⟨x, hx, rfl⟩ := intC_of hj
      have hjl := (List.getElem?_eq_some_iff.1 hx).1
      rw [htl] at hjl
      rw [List.getElem?_take_of_lt hjl, List.getElem?_eq_getElem (by omega)] at hx
      have hc := hcell j (by omega)
      rw [List.getD_eq_getElem?_getD, List.getElem?_eq_getElem (by omega)] at hc
      rw [add_any] at hc
      rw [hc]
      simpa using hx
end Go.Proofs.YtfiodejbeeblgaaDoor
