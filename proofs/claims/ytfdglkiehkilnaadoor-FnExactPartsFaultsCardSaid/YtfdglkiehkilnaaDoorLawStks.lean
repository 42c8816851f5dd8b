/- Chords that came in, in slices of slices of pitches. -/
import Derived.Test.YtfdglkiehkilnaaDoorLawPits
import Derived.Test.YtfdglkiehkilnaaDoorStks
namespace Go.Proofs.YtfdglkiehkilnaaDoor
set_option linter.unusedSimpArgs false
set_option linter.unusedVariables false
set_option maxRecDepth 8000
open Go.ChangeShapes Go.WideShapes Go.ChangeAt Go.RowKit Go.Joins
set_option maxRecDepth 8000

theorem cellsOf_pitsS : Tryd.prog.cellsOf 40 = 1 := by kernel_rfl
section
variable {H : Type} {enc : TypeId × Value → H} {w : World} {base : Nat} {held : Bool}
theorem pts_open {fuel : Nat} {cs : List Value} {x : DataW H × List MemPlace} (h : DataW.trod enc Tryd.prog w base (fun _ => true) held fuel 40 cs = some x) :
    ∃ (ev : Value) (l : List Pt), cs = [ev] ∧ PtsAt w ev l ∧ l.length ≤ maxLen ∧ ∀ y ∈ l, pt64 y := by
  rcases Go.Deep.open_slice Tryd.underlying40 h with ⟨rfl, _⟩ | ⟨a, len, cap, m, n, D, Pl, rfl, _, hl, hm, hmm, _, hi⟩
  · exact ⟨_, [], rfl, Or.inl ⟨rfl, _, _, rfl⟩, Nat.zero_le _, fun y hy => by cases hy⟩
  · simp only [if_true] at hmm
    have key : ∀ i, i < len → ∃ x : Pt, pt64 x ∧ ∀ k u, (ptC x)[k]? = some u → w.cell? (a.add (i * 3 + k)) = some u := fun i hil => by
      obtain ⟨cs', hc, ht⟩ := hi i (by omega)
      obtain ⟨x, rfl, hx⟩ := pit_trod ht
      obtain ⟨_, hcl, hat⟩ := World.cells?_some hc
      refine ⟨x, hx, fun k u hk => ?_⟩
      have hlk := (List.getElem?_eq_some_iff.1 hk).1
      have h3 : (ptC x).length = 3 := rfl
      have := hat k (by rw [cellsOf_pitP]; omega)
      rw [cellsOf_pitP] at this
      rw [← Go.Deep.add_add, this, hk]
    obtain ⟨l, hll, hp⟩ := list_ofP len key
    refine ⟨_, l, rfl, ?_, by rw [hll]; exact Nat.le_trans hl hm, fun x hx => ?_⟩
    · by_cases h0 : len = 0
      · subst h0
        exact Or.inl ⟨List.eq_nil_of_length_eq_zero hll, _, _, rfl⟩
      · obtain ⟨x0, hx0⟩ : ∃ x, l[0]? = some x := ⟨_, List.getElem?_eq_getElem (by omega)⟩
        have c0 := (hp 0 x0 hx0).2 0 _ rfl
        obtain ⟨b, off, spot⟩ := a
        have hspot : spot = none := by simpa [Addr.add] using World.cell?_spot c0
        subst hspot
        have hb : b < w.heap.size := by simpa [Addr.add] using cell_lt c0
        refine Or.inr ⟨pcC_len l, ?_⟩
        rw [hll]
        refine Or.inr ⟨b, off, cap, rfl, hl, hm, hb, fun j u hj => ?_⟩
        obtain ⟨x, hx, hk⟩ := pcC_of hj
        have := (hp _ x hx).2 _ u hk
        rw [show j / 3 * 3 + j % 3 = j by omega] at this
        rw [← add_plain]
        exact this
    · obtain ⟨i, hi⟩ := List.getElem?_of_mem hx
      exact (hp i x hi).1
end

/-- A slice of slices of pitches that came in. -/
theorem stks_in {H : Type} {enc : TypeId × Value → H} {W : World} {base : Nat} {v : Value} {d : DataW H} {p : List MemPlace}
    (hv : Value.okWide Tryd.prog W .any base 54 v) (h : DataW.Trod enc Tryd.prog W 0 (fun _ => true) true 54 v d p) :
    ∃ ll : List (List Pt), ll.length ≤ maxLen ∧ (∀ l ∈ ll, ∀ x ∈ l, pt64 x) ∧ StkIn W v ll := by
  obtain ⟨a0, len, cap, rfl⟩ := okWide_slice Tryd.underlying54 hv
  obtain ⟨fuel, hf⟩ := h
  rcases Go.Deep.open_slice Tryd.underlying54 hf with ⟨hcs, _⟩ | ⟨a, len', cap', m, n, D, Pl, hcs, _, hl, hm, hmm, _, hi⟩
  · simp [Value.cells] at hcs
    obtain ⟨rfl, rfl, rfl⟩ := hcs
    exact ⟨[], Nat.zero_le _, fun l hl => (by cases hl), Or.inl ⟨rfl, _, _, rfl⟩⟩
  · simp [Value.cells] at hcs
    obtain ⟨rfl, rfl, rfl⟩ := hcs
    simp only [if_true] at hmm
    have key : ∀ i, i < len → ∃ x : List Pt × Value, (PtsAt W x.2 x.1 ∧ ∀ y ∈ x.1, pt64 y) ∧ W.cell? (a.add i) = some x.2 := fun i hil => by
      obtain ⟨cs', hc, ht⟩ := hi i (by omega)
      obtain ⟨ev, l, rfl, hx, _, h64⟩ := pts_open ht
      obtain ⟨_, hcl, hat⟩ := World.cells?_some hc
      refine ⟨(l, ev), ⟨hx, h64⟩, ?_⟩
      have := hat 0 (by rw [cellsOf_pitsS]; omega)
      rw [cellsOf_pitsS] at this
      have e : (a.add (i * 1)).add 0 = a.add i := by rw [Go.Deep.add_add]; congr 1; omega
      rw [e] at this
      exact this
    obtain ⟨l, hll, hp⟩ := list_ofP len key
    refine ⟨l.map (·.1), by rw [List.length_map, hll]; exact Nat.le_trans hl hm, fun y hy z hz => ?_, ?_⟩
    · obtain ⟨x, hx, rfl⟩ := List.mem_map.1 hy
      obtain ⟨i, hi⟩ := List.getElem?_of_mem hx
      exact (hp i x hi).1.2 z hz
    · by_cases h0 : len = 0
      · subst h0
        have : l = [] := List.eq_nil_of_length_eq_zero hll
        subst this
        exact Or.inl ⟨rfl, _, _, rfl⟩
      · obtain ⟨x0, hx0⟩ : ∃ x, l[0]? = some x := ⟨_, List.getElem?_eq_getElem (by omega)⟩
        have c0 := (hp 0 x0 hx0).2
        obtain ⟨b, off, spot⟩ := a
        have hspot : spot = none := by simpa [Addr.add] using World.cell?_spot c0
        subst hspot
        have hb : b < W.heap.size := by simpa [Addr.add] using cell_lt c0
        refine Or.inr ⟨l.map (·.2), by simp, ⟨by simp, ?_⟩, fun k s ev hs hev => ?_⟩
        · rw [List.length_map, hll]
          refine Or.inr ⟨b, off, cap, rfl, hl, hm, hb, fun j u hj => ?_⟩
          rw [List.getElem?_map] at hj
          obtain ⟨x, hx, rfl⟩ := Option.map_eq_some_iff.1 hj
          have := (hp _ x hx).2
          rw [← add_plain]
          exact this
        · rw [List.getElem?_map] at hs hev
          obtain ⟨x, hx, rfl⟩ := Option.map_eq_some_iff.1 hs
          rw [hx] at hev
          simp at hev
          subst hev
          exact (hp _ x hx).1.1
end Go.Proofs.YtfdglkiehkilnaaDoor
