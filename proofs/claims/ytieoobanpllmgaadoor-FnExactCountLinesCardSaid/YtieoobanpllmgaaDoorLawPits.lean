/- Pitches that came in, in slices: their cells. -/
import Derived.Test.YtieoobanpllmgaaDoorLaw
import Derived.Test.YtieoobanpllmgaaDoorLawBytes
import Derived.Test.YtieoobanpllmgaaDoorWalksPt
import Derived.Deep.Slices
import Derived.ChangeArms
namespace Go.Proofs.YtieoobanpllmgaaDoor
set_option linter.unusedSimpArgs false
set_option linter.unusedVariables false
set_option maxRecDepth 8000
open Go.ChangeShapes Go.WideShapes Go.ChangeAt Go.RowKit Go.Joins
set_option maxRecDepth 8000

/-- all numbers of a pitch have 64 bits. -/
def pt64 (x : Pt) : Prop := (-9223372036854775808 ≤ x.s ∧ x.s ≤ 9223372036854775807) ∧ (-9223372036854775808 ≤ x.a ∧ x.a ≤ 9223372036854775807) ∧ (-9223372036854775808 ≤ x.o ∧ x.o ≤ 9223372036854775807)

theorem cellsOf_pitP : Tryd.prog.cellsOf 72 = 3 := by kernel_rfl
theorem cellsOf_intP : Tryd.prog.cellsOf 3 = 1 := by kernel_rfl
theorem some_of_lenP {α : Type} {xs : List α} {n i : Nat} (h : xs.length = n) (hi : i < n) : ∃ y, xs[i]? = some y := ⟨_, List.getElem?_eq_getElem (by omega)⟩

section
variable {H : Type} {enc : TypeId × Value → H} {w : World} {base : Nat} {sp : Nat → Bool} {held : Bool}
theorem pit_trod {fuel : Nat} {cs : List Value} {x : DataW H × List MemPlace} (h : DataW.trod enc Tryd.prog w base sp held fuel 72 cs = some x) :
    ∃ y : Pt, cs = ptC y ∧ pt64 y := by
  obtain ⟨xs, n, _, _, hlen, hxl, hf⟩ := DataW.trod_struct Tryd.underlying72 h
  rw [cellsOf_pitP] at hlen
  have hxl' : xs.length = 3 := hxl
  have h0 : DataW.trod enc Tryd.prog w base sp held n 3 ((cs.drop 0).take (Tryd.prog.cellsOf 3)) = xs[0]? := hf 0 _ rfl
  have h1 : DataW.trod enc Tryd.prog w base sp held n 3 ((cs.drop 1).take (Tryd.prog.cellsOf 3)) = xs[1]? := hf 1 _ rfl
  have h2 : DataW.trod enc Tryd.prog w base sp held n 3 ((cs.drop 2).take (Tryd.prog.cellsOf 3)) = xs[2]? := hf 2 _ rfl
  rw [cellsOf_intP] at h0 h1 h2
  obtain ⟨y0, e0⟩ := some_of_lenP (i := 0) hxl' (by omega)
  obtain ⟨y1, e1⟩ := some_of_lenP (i := 1) hxl' (by omega)
  obtain ⟨y2, e2⟩ := some_of_lenP (i := 2) hxl' (by omega)
  rw [e0] at h0
  rw [e1] at h1
  rw [e2] at h2
  match cs, hlen with
  | [c0, c1, c2], _ =>
    obtain ⟨s, g0, _, w0⟩ := DataW.trod_int Tryd.underlying3 h0
    obtain ⟨a, g1, _, w1⟩ := DataW.trod_int Tryd.underlying3 h1
    obtain ⟨o, g2, _, w2⟩ := DataW.trod_int Tryd.underlying3 h2
    simp at g0 g1 g2
    subst g0 g1 g2
    exact ⟨⟨s, a, o⟩, rfl, wf64 w0, wf64 w1, wf64 w2⟩
theorem list_ofP {α : Type} {p : Nat → α → Prop} : ∀ n : Nat, (∀ i, i < n → ∃ x, p i x) → ∃ l : List α, l.length = n ∧ ∀ i x, l[i]? = some x → p i x
  | 0, _ => ⟨[], rfl, fun i x h => by simp at h⟩
  | n + 1, h => by
    obtain ⟨l, hl, hp⟩ := list_ofP n (fun i hi => h i (by omega))
    obtain ⟨x, hx⟩ := h n (by omega)
    refine ⟨l ++ [x], by simp [hl], fun i y hy => ?_⟩
    by_cases hi : i < n
    · rw [List.getElem?_append_left (by omega)] at hy
      exact hp i y hy
    · have hlt := (List.getElem?_eq_some_iff.1 hy).1
      simp [hl] at hlt
      obtain rfl : i = n := by omega
      rw [List.getElem?_append_right (by omega), hl, Nat.sub_self] at hy
      simp at hy
      subst hy
      exact hx
theorem pcC_of {v : List Pt} {j : Nat} {u : Value} (h : (pcC v)[j]? = some u) : ∃ x, v[j / 3]? = some x ∧ (ptC x)[j % 3]? = some u := by
  have hl := (List.getElem?_eq_some_iff.1 h).1
  rw [pcC_len] at hl
  obtain ⟨x, hx⟩ : ∃ x, v[j / 3]? = some x := ⟨_, List.getElem?_eq_getElem (by omega)⟩
  refine ⟨x, hx, ?_⟩
  obtain ⟨a0, a1, a2⟩ := pcC_at hx
  have hj : j = j / 3 * 3 + j % 3 := by omega
  rw [hj] at h
  obtain e | e | e : j % 3 = 0 ∨ j % 3 = 1 ∨ j % 3 = 2 := by omega
  all_goals
    rw [e] at h ⊢
    try simp only [Nat.add_zero] at h
    first | (rw [a0] at h; exact h) | (rw [a1] at h; exact h) | (rw [a2] at h; exact h)
end

/-- A slice of pitches that came in. -/
theorem pts_in {H : Type} {enc : TypeId × Value → H} {W : World} {base : Nat} {v : Value} {d : DataW H} {p : List MemPlace}
    (hv : Value.okWide Tryd.prog W .any base 39 v) (h : DataW.Trod enc Tryd.prog W 0 (fun _ => true) true 39 v d p) :
    ∃ l : List Pt, l.length ≤ maxLen ∧ (∀ x ∈ l, pt64 x) ∧ PtsAt W v l := by
  obtain ⟨a0, len, cap, rfl⟩ := okWide_slice Tryd.underlying39 hv
  obtain ⟨fuel, hf⟩ := h
  rcases Go.Deep.open_slice Tryd.underlying39 hf with ⟨hcs, _⟩ | ⟨a, len', cap', m, n, D, Pl, hcs, _, hl, hm, hmm, _, hi⟩
  · simp [Value.cells] at hcs
    obtain ⟨rfl, rfl, rfl⟩ := hcs
    exact ⟨[], Nat.zero_le _, fun x hx => (by cases hx), Or.inl ⟨rfl, _, _, rfl⟩⟩
  · simp [Value.cells] at hcs
    obtain ⟨rfl, rfl, rfl⟩ := hcs
    simp only [if_true] at hmm
    have key : ∀ i, i < len → ∃ x : Pt, pt64 x ∧ ∀ k u, (ptC x)[k]? = some u → W.cell? (a.add (i * 3 + k)) = some u := fun i hil => by
      obtain ⟨cs', hc, ht⟩ := hi i (by omega)
      obtain ⟨x, rfl, hx⟩ := pit_trod ht
      obtain ⟨_, hcl, hat⟩ := World.cells?_some hc
      refine ⟨x, hx, fun k u hk => ?_⟩
      have hlk := (List.getElem?_eq_some_iff.1 hk).1
      have h3 : (ptC x).length = 3 := rfl
      have := hat k (by rw [cellsOf_pitP]; omega)
      rw [cellsOf_pitP] at this
      rw [← Go.Deep.add_add, this, hk]
    obtain ⟨l, hll, hp⟩ := list_ofP len key
    refine ⟨l, by rw [hll]; exact Nat.le_trans hl hm, fun x hx => ?_, ?_⟩
    · obtain ⟨i, hi⟩ := List.getElem?_of_mem hx
      exact (hp i x hi).1
    · by_cases h0 : len = 0
      · subst h0
        exact Or.inl ⟨List.eq_nil_of_length_eq_zero hll, _, _, rfl⟩
      · obtain ⟨x0, hx0⟩ : ∃ x, l[0]? = some x := ⟨_, List.getElem?_eq_getElem (by omega)⟩
        have c0 := (hp 0 x0 hx0).2 0 _ rfl
        obtain ⟨b, off, spot⟩ := a
        have hspot : spot = none := by simpa [Addr.add] using World.cell?_spot c0
        subst hspot
        have hb : b < W.heap.size := by simpa [Addr.add] using cell_lt c0
        refine Or.inr ⟨pcC_len l, ?_⟩
        rw [hll]
        refine Or.inr ⟨b, off, cap, rfl, hl, hm, hb, fun j u hj => ?_⟩
        obtain ⟨x, hx, hk⟩ := pcC_of hj
        have := (hp _ x hx).2 _ u hk
        rw [show j / 3 * 3 + j % 3 = j by omega] at this
        rw [← add_plain]
        exact this
end Go.Proofs.YtieoobanpllmgaaDoor
