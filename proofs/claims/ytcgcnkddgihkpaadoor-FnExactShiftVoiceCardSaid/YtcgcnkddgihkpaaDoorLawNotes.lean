/- Notes that came in, by value and in slices: their cells. -/
import Derived.Test.YtcgcnkddgihkpaaDoorLaw
import Derived.Test.YtcgcnkddgihkpaaDoorLawBytes
import Derived.Test.YtcgcnkddgihkpaaDoorWalksNS
import Derived.Deep.Slices
import Derived.ChangeArms
namespace Go.Proofs.YtcgcnkddgihkpaaDoor
set_option linter.unusedSimpArgs false
set_option linter.unusedVariables false
set_option maxRecDepth 8000
open Go.ChangeShapes Go.WideShapes Go.ChangeAt Go.RowKit Go.Joins
set_option maxRecDepth 8000

/-- all numbers of a note have 64 bits. -/
def nt64 (x : Nt) : Prop := (-9223372036854775808 ≤ x.s ∧ x.s ≤ 9223372036854775807) ∧ (-9223372036854775808 ≤ x.a ∧ x.a ≤ 9223372036854775807) ∧ (-9223372036854775808 ≤ x.o ∧ x.o ≤ 9223372036854775807) ∧ (-9223372036854775808 ≤ x.t ∧ x.t ≤ 9223372036854775807)

theorem cellsOf_note : Tryd.prog.cellsOf 88 = 6 := by kernel_rfl
theorem cellsOf_pitch : Tryd.prog.cellsOf 86 = 3 := by kernel_rfl
theorem cellsOf_int : Tryd.prog.cellsOf 3 = 1 := by kernel_rfl
theorem cellsOf_bool : Tryd.prog.cellsOf 4 = 1 := by kernel_rfl
theorem some_of_len {α : Type} {xs : List α} {n i : Nat} (h : xs.length = n) (hi : i < n) : ∃ y, xs[i]? = some y := ⟨_, List.getElem?_eq_getElem (by omega)⟩

section
variable {H : Type} {enc : TypeId × Value → H} {w : World} {base : Nat} {sp : Nat → Bool} {held : Bool}

theorem pitch_trod {fuel : Nat} {cs : List Value} {x : DataW H × List MemPlace} (h : DataW.trod enc Tryd.prog w base sp held fuel 86 cs = some x) :
    ∃ s a o : Int, cs = [.int .i64 s, .int .i64 a, .int .i64 o] ∧ (Lit.int .i64 s).wf = true ∧ (Lit.int .i64 a).wf = true ∧ (Lit.int .i64 o).wf = true := by
  obtain ⟨xs, n, _, _, hlen, hxl, hf⟩ := DataW.trod_struct Tryd.underlying86 h
  rw [cellsOf_pitch] at hlen
  have hxl' : xs.length = 3 := hxl
  have h0 : DataW.trod enc Tryd.prog w base sp held n 3 ((cs.drop 0).take (Tryd.prog.cellsOf 3)) = xs[0]? := hf 0 _ rfl
  have h1 : DataW.trod enc Tryd.prog w base sp held n 3 ((cs.drop 1).take (Tryd.prog.cellsOf 3)) = xs[1]? := hf 1 _ rfl
  have h2 : DataW.trod enc Tryd.prog w base sp held n 3 ((cs.drop 2).take (Tryd.prog.cellsOf 3)) = xs[2]? := hf 2 _ rfl
  rw [cellsOf_int] at h0 h1 h2
  obtain ⟨y0, e0⟩ := some_of_len (i := 0) hxl' (by omega)
  obtain ⟨y1, e1⟩ := some_of_len (i := 1) hxl' (by omega)
  obtain ⟨y2, e2⟩ := some_of_len (i := 2) hxl' (by omega)
  rw [e0] at h0
  rw [e1] at h1
  rw [e2] at h2
  match cs, hlen with
  | [c0, c1, c2], _ =>
    obtain ⟨s, g0, _, w0⟩ := DataW.trod_int Tryd.underlying3 h0
    obtain ⟨a, g1, _, w1⟩ := DataW.trod_int Tryd.underlying3 h1
    obtain ⟨o, g2, _, w2⟩ := DataW.trod_int Tryd.underlying3 h2
    simp at g0 g1 g2
    subst g0 g1 g2
    exact ⟨s, a, o, rfl, w0, w1, w2⟩

theorem note_trod {fuel : Nat} {cs : List Value} {x : DataW H × List MemPlace} (h : DataW.trod enc Tryd.prog w base sp held fuel 88 cs = some x) :
    ∃ n : Nt, cs = ntC n ∧ nt64 n := by
  obtain ⟨xs, n, _, _, hlen, hxl, hf⟩ := DataW.trod_struct Tryd.underlying88 h
  rw [cellsOf_note] at hlen
  have hxl' : xs.length = 4 := hxl
  have h0 : DataW.trod enc Tryd.prog w base sp held n 4 ((cs.drop 0).take (Tryd.prog.cellsOf 4)) = xs[0]? := hf 0 _ rfl
  have h1 : DataW.trod enc Tryd.prog w base sp held n 86 ((cs.drop 1).take (Tryd.prog.cellsOf 86)) = xs[1]? := hf 1 _ rfl
  have h2 : DataW.trod enc Tryd.prog w base sp held n 3 ((cs.drop 4).take (Tryd.prog.cellsOf 3)) = xs[2]? := hf 2 _ rfl
  have h3 : DataW.trod enc Tryd.prog w base sp held n 4 ((cs.drop 5).take (Tryd.prog.cellsOf 4)) = xs[3]? := hf 3 _ rfl
  rw [cellsOf_bool] at h0 h3
  rw [cellsOf_pitch] at h1
  rw [cellsOf_int] at h2
  obtain ⟨y0, e0⟩ := some_of_len (i := 0) hxl' (by omega)
  obtain ⟨y1, e1⟩ := some_of_len (i := 1) hxl' (by omega)
  obtain ⟨y2, e2⟩ := some_of_len (i := 2) hxl' (by omega)
  obtain ⟨y3, e3⟩ := some_of_len (i := 3) hxl' (by omega)
  rw [e0] at h0
  rw [e1] at h1
  rw [e2] at h2
  rw [e3] at h3
  match cs, hlen with
  | [c0, c1, c2, c3, c4, c5], _ =>
    obtain ⟨r, g0, _⟩ := DataW.trod_bool Tryd.underlying4 h0
    obtain ⟨s, a, o, g1, w1, w2, w3⟩ := pitch_trod h1
    obtain ⟨t, g2, _, w4⟩ := DataW.trod_int Tryd.underlying3 h2
    obtain ⟨y, g3, _⟩ := DataW.trod_bool Tryd.underlying4 h3
    simp at g0 g1 g2 g3
    obtain ⟨g1, g4, g5⟩ := g1
    subst g0 g1 g2 g3 g4 g5
    exact ⟨⟨r, s, a, o, t, y⟩, rfl, wf64 w1, wf64 w2, wf64 w3, wf64 w4⟩

/-- A list of what is known at each place. -/
theorem list_of {α : Type} {p : Nat → α → Prop} : ∀ n : Nat, (∀ i, i < n → ∃ x, p i x) → ∃ l : List α, l.length = n ∧ ∀ i x, l[i]? = some x → p i x
  | 0, _ => ⟨[], rfl, fun i x h => by simp at h⟩
  | n + 1, h => by
    obtain ⟨l, hl, hp⟩ := list_of n (fun i hi => h i (by omega))
    obtain ⟨x, hx⟩ := h n (by omega)
    refine ⟨l ++ [x], by simp [hl], fun i y hy => ?_⟩
    by_cases hi : i < n
    · rw [List.getElem?_append_left (by omega)] at hy
      exact hp i y hy
    · have hlt := (List.getElem?_eq_some_iff.1 hy).1
      simp [hl] at hlt
      obtain rfl : i = n := by omega
      rw [List.getElem?_append_right (by omega), hl, Nat.sub_self] at hy
      simp at hy
      subst hy
      exact hx
theorem vcC_of {v : List Nt} {j : Nat} {u : Value} (h : (vcC v)[j]? = some u) : ∃ x, v[j / 6]? = some x ∧ (ntC x)[j % 6]? = some u := by
  have hl := (List.getElem?_eq_some_iff.1 h).1
  rw [vcC_len] at hl
  obtain ⟨x, hx⟩ : ∃ x, v[j / 6]? = some x := ⟨_, List.getElem?_eq_getElem (by omega)⟩
  refine ⟨x, hx, ?_⟩
  obtain ⟨a0, a1, a2, a3, a4, a5⟩ := vcC_at hx
  have hj : j = j / 6 * 6 + j % 6 := by omega
  rw [hj] at h
  obtain e | e | e | e | e | e : j % 6 = 0 ∨ j % 6 = 1 ∨ j % 6 = 2 ∨ j % 6 = 3 ∨ j % 6 = 4 ∨ j % 6 = 5 := by omega
  all_goals
    rw [e] at h ⊢
    try simp only [Nat.add_zero] at h
    first | (rw [a0] at h; exact h) | (rw [a1] at h; exact h) | (rw [a2] at h; exact h) | (rw [a3] at h; exact h) | (rw [a4] at h; exact h) | (rw [a5] at h; exact h)
end

/-- A slice of notes that came in. -/
theorem notes_in {H : Type} {enc : TypeId × Value → H} {W : World} {base : Nat} {v : Value} {d : DataW H} {p : List MemPlace}
    (hv : Value.okWide Tryd.prog W .any base 47 v) (h : DataW.Trod enc Tryd.prog W 0 (fun _ => true) true 47 v d p) :
    ∃ l : List Nt, l.length ≤ maxLen ∧ (∀ x ∈ l, nt64 x) ∧ ((l = [] ∧ ∃ a c, v = .slice a 0 c) ∨ SlAt W v l.length 6 (vcC l)) := by
  obtain ⟨a0, len, cap, rfl⟩ := okWide_slice Tryd.underlying47 hv
  obtain ⟨fuel, hf⟩ := h
  rcases Go.Deep.open_slice Tryd.underlying47 hf with ⟨hcs, _⟩ | ⟨a, len', cap', m, n, D, Pl, hcs, _, hl, hm, hmm, _, hi⟩
  · simp [Value.cells] at hcs
    obtain ⟨rfl, rfl, rfl⟩ := hcs
    exact ⟨[], Nat.zero_le _, fun x hx => (by cases hx), Or.inl ⟨rfl, _, _, rfl⟩⟩
  · simp [Value.cells] at hcs
    obtain ⟨rfl, rfl, rfl⟩ := hcs
    simp only [if_true] at hmm
    have key : ∀ i, i < len → ∃ x : Nt, nt64 x ∧ ∀ k u, (ntC x)[k]? = some u → W.cell? (a.add (i * 6 + k)) = some u := fun i hil => by
      obtain ⟨cs', hc, ht⟩ := hi i (by omega)
      obtain ⟨x, rfl, hx⟩ := note_trod ht
      obtain ⟨_, hcl, hat⟩ := World.cells?_some hc
      refine ⟨x, hx, fun k u hk => ?_⟩
      have hlk := (List.getElem?_eq_some_iff.1 hk).1
      have h6 : (ntC x).length = 6 := rfl
      have := hat k (by rw [cellsOf_note]; omega)
      rw [cellsOf_note] at this
      rw [← Go.Deep.add_add, this, hk]
    obtain ⟨l, hll, hp⟩ := list_of len key
    refine ⟨l, by rw [hll]; exact Nat.le_trans hl hm, fun x hx => ?_, ?_⟩
    · obtain ⟨i, hi⟩ := List.getElem?_of_mem hx
      exact (hp i x hi).1
    · by_cases h0 : len = 0
      · subst h0
        exact Or.inl ⟨List.eq_nil_of_length_eq_zero hll, _, _, rfl⟩
      · obtain ⟨x0, hx0⟩ : ∃ x, l[0]? = some x := ⟨_, List.getElem?_eq_getElem (by omega)⟩
        have c0 := (hp 0 x0 hx0).2 0 _ rfl
        obtain ⟨b, off, spot⟩ := a
        have hspot : spot = none := by simpa [Addr.add] using World.cell?_spot c0
        subst hspot
        have hb : b < W.heap.size := by simpa [Addr.add] using cell_lt c0
        refine Or.inr ⟨vcC_len l, ?_⟩
        rw [hll]
        refine Or.inr ⟨b, off, cap, rfl, hl, hm, hb, fun j u hj => ?_⟩
        obtain ⟨x, hx, hk⟩ := vcC_of hj
        have := (hp _ x hx).2 _ u hk
        rw [show j / 6 * 6 + j % 6 = j by omega] at this
        rw [← add_plain]
        exact this

/-- A note that came in, by value. -/
theorem note_in {H : Type} {enc : TypeId × Value → H} {W : World} {base : Nat} {v : Value} {d : DataW H} {p : List MemPlace}
    (hv : Value.okWide Tryd.prog W .any base 88 v) (h : DataW.Trod enc Tryd.prog W 0 (fun _ => true) true 88 v d p) :
    ∃ x : Nt, v = .agg #[.bool x.r, .int .i64 x.s, .int .i64 x.a, .int .i64 x.o, .int .i64 x.t, .bool x.y] ∧ nt64 x := by
  obtain ⟨cs, rfl, _⟩ := okWide_struct Tryd.underlying88 hv
  obtain ⟨fuel, hf⟩ := h
  obtain ⟨x, hx, h64⟩ := note_trod hf
  refine ⟨x, ?_, h64⟩
  obtain ⟨l⟩ := cs
  have hl : l = ntC x := by simpa [Value.cells] using hx
  subst hl
  rfl
end Go.Proofs.YtcgcnkddgihkpaaDoor
