/- Sections and texts that came in: their cells. -/
import Derived.Test.YtpfefbpmchigeaaLaw
import Derived.Test.YtpfefbpmchigeaaWalks7U
import Derived.Test.YtpfefbpmchigeaaSecs
import Derived.Deep.Slices
import Derived.ChangeArms
import Derived.SliceStrings
namespace Go.Proofs.Ytpfefbpmchigeaa
set_option linter.unusedSimpArgs false
set_option linter.unusedVariables false
open Go.ChangeShapes Go.WideShapes Go.ChangeAt Go.RowKit Go.Joins

theorem cellsOf_sec : Try.prog.cellsOf 24 = 3 := by kernel_rfl
theorem cellsOf_ints : Try.prog.cellsOf 22 = 1 := by kernel_rfl
theorem cellsOf_i : Try.prog.cellsOf 3 = 1 := by kernel_rfl
theorem cellsOf_t : Try.prog.cellsOf 9 = 1 := by kernel_rfl
theorem some_len {α : Type} {xs : List α} {n i : Nat} (h : xs.length = n) (hi : i < n) : ∃ y, xs[i]? = some y := ⟨_, List.getElem?_eq_getElem (by omega)⟩
theorem cell_in {w : World} {a : Addr} {v : Value} (h : w.cell? a = some v) : a.block < w.heap.size := by
  rcases Nat.lt_or_ge a.block w.heap.size with h' | h'
  · exact h'
  · unfold World.cell? at h
    rw [Array.getElem?_eq_none h'] at h
    cases h
/-- A list of what is known at each place. -/
theorem list_at {α : Type} {p : Nat → α → Prop} : ∀ n : Nat, (∀ i, i < n → ∃ x, p i x) → ∃ l : List α, l.length = n ∧ ∀ i x, l[i]? = some x → p i x
  | 0, _ => ⟨[], rfl, fun i x h => by simp at h⟩
  | n + 1, h => by
    obtain ⟨l, hl, hp⟩ := list_at n (fun i hi => h i (by omega))
    obtain ⟨x, hx⟩ := h n (by omega)
    refine ⟨l ++ [x], by simp [hl], fun i y hy => ?_⟩
    by_cases hi : i < n
    · rw [List.getElem?_append_left (by omega)] at hy
      exact hp i y hy
    · have hlt := (List.getElem?_eq_some_iff.1 hy).1
      simp [hl] at hlt
      obtain rfl : i = n := by omega
      rw [List.getElem?_append_right (by omega), hl, Nat.sub_self] at hy
      simp at hy
      subst hy
      exact hx

section
variable {H : Type} {enc : TypeId × Value → H} {w : World} {base : Nat} {held : Bool}

theorem ints_open {fuel : Nat} {cs : List Value} {x : DataW H × List MemPlace} (h : DataW.trod enc Try.prog w base (fun _ => true) held fuel 22 cs = some x) :
    ∃ (ev : Value) (e : List Int), cs = [ev] ∧ IntsAt w ev e ∧ e.length ≤ maxLen ∧ ∀ n ∈ e, (Lit.int .i64 n).wf = true := by
  rcases open_ints Try.underlying22 Try.underlying3 cellsOf_i h with ⟨rfl, _⟩ | ⟨a, len, cap, zs, rfl, _, hl, hm, hz, _, hcell, hwz⟩
  · exact ⟨_, [], rfl, Or.inl ⟨rfl, _, _, rfl⟩, Nat.zero_le _, fun n hn => by cases hn⟩
  · simp only [if_true] at hz
    have htl : (zs.take len).length = len := by rw [List.length_take]; omega
    refine ⟨_, zs.take len, rfl, ?_, by omega, fun n hn => hwz n (List.mem_of_mem_take hn)⟩
    by_cases h0 : len = 0
    · subst h0
      exact Or.inl ⟨by simp, _, _, rfl⟩
    · obtain ⟨b, off, spot⟩ := a
      have c0 := hcell 0 (by omega)
      have hspot : spot = none := by simpa [Addr.add] using World.cell?_spot c0
      subst hspot
      have hb : b < w.heap.size := by simpa [Addr.add] using cell_in c0
      refine Or.inr ⟨by rw [List.length_map, htl]; omega, ?_⟩
      rw [htl]
      refine Or.inr ⟨b, off, cap, rfl, hl, hm, hb, fun j u hj => ?_⟩
      have hjl := (List.getElem?_eq_some_iff.1 hj).1
      rw [List.length_map, htl] at hjl
      rw [List.getElem?_map, List.getElem?_take_of_lt hjl, List.getElem?_eq_getElem (by omega)] at hj
      have hc := hcell j (by omega)
      rw [List.getD_eq_getElem?_getD, List.getElem?_eq_getElem (by omega)] at hc
      rw [add_any] at hc
      rw [hc]
      simpa using hj

theorem sec_trod {fuel : Nat} {cs : List Value} {x : DataW H × List MemPlace} (h : DataW.trod enc Try.prog w base (fun _ => true) held fuel 24 cs = some x) :
    ∃ (s : Sec) (ev : Value), cs = [.int .i64 s.b, .int .i64 s.t, ev] ∧ IntsAt w ev s.e := by
  obtain ⟨xs, n, _, _, hlen, hxl, hf⟩ := DataW.trod_struct Try.underlying24 h
  rw [cellsOf_sec] at hlen
  have hxl' : xs.length = 3 := hxl
  have h0 : DataW.trod enc Try.prog w base (fun _ => true) held n 3 ((cs.drop 0).take (Try.prog.cellsOf 3)) = xs[0]? := hf 0 _ rfl
  have h1 : DataW.trod enc Try.prog w base (fun _ => true) held n 3 ((cs.drop 1).take (Try.prog.cellsOf 3)) = xs[1]? := hf 1 _ rfl
  have h2 : DataW.trod enc Try.prog w base (fun _ => true) held n 22 ((cs.drop 2).take (Try.prog.cellsOf 22)) = xs[2]? := hf 2 _ rfl
  rw [cellsOf_i] at h0 h1
  rw [cellsOf_ints] at h2
  obtain ⟨y0, e0⟩ := some_len (i := 0) hxl' (by omega)
  obtain ⟨y1, e1⟩ := some_len (i := 1) hxl' (by omega)
  obtain ⟨y2, e2⟩ := some_len (i := 2) hxl' (by omega)
  rw [e0] at h0
  rw [e1] at h1
  rw [e2] at h2
  match cs, hlen with
  | [c0, c1, c2], _ =>
    obtain ⟨b, g0, _, _⟩ := DataW.trod_int Try.underlying3 h0
    obtain ⟨t, g1, _, _⟩ := DataW.trod_int Try.underlying3 h1
    obtain ⟨ev, e, g2, hI, _⟩ := ints_open h2
    simp at g0 g1 g2
    subst g0 g1 g2
    exact ⟨⟨b, t, e⟩, _, rfl, hI⟩
end

/-- A section that came in, by value. -/
theorem sec_in {H : Type} {enc : TypeId × Value → H} {W : World} {base : Nat} {v : Value} {d : DataW H} {p : List MemPlace}
    (hv : Value.okWide Try.prog W .any base 24 v) (h : DataW.Trod enc Try.prog W 0 (fun _ => true) true 24 v d p) :
    ∃ (s : Sec) (ev : Value), v = .agg #[.int .i64 s.b, .int .i64 s.t, ev] ∧ IntsAt W ev s.e := by
  obtain ⟨cs, rfl, _⟩ := okWide_struct Try.underlying24 hv
  obtain ⟨fuel, hf⟩ := h
  obtain ⟨s, ev, hx, hI⟩ := sec_trod hf
  refine ⟨s, ev, ?_, hI⟩
  obtain ⟨l⟩ := cs
  have hl : l = [.int .i64 s.b, .int .i64 s.t, ev] := by simpa [Value.cells] using hx
  subst hl
  rfl

/-- A slice of sections that came in. -/
theorem secs_in {H : Type} {enc : TypeId × Value → H} {W : World} {base : Nat} {v : Value} {d : DataW H} {p : List MemPlace}
    (hv : Value.okWide Try.prog W .any base 31 v) (h : DataW.Trod enc Try.prog W 0 (fun _ => true) true 31 v d p) :
    ∃ l : List Sec, SecsAt W v l := by
  obtain ⟨a0, len, cap, rfl⟩ := okWide_slice Try.underlying31 hv
  obtain ⟨fuel, hf⟩ := h
  rcases Go.Deep.open_slice Try.underlying31 hf with ⟨hcs, _⟩ | ⟨a, len', cap', m, n, D, Pl, hcs, _, hl, hm, hmm, _, hi⟩
  · simp [Value.cells] at hcs
    obtain ⟨rfl, rfl, rfl⟩ := hcs
    exact ⟨[], Or.inl ⟨rfl, _, _, rfl⟩⟩
  · simp [Value.cells] at hcs
    obtain ⟨rfl, rfl, rfl⟩ := hcs
    simp only [if_true] at hmm
    have key : ∀ i, i < len → ∃ x : Sec × Value, IntsAt W x.2 x.1.e ∧ ∀ k u, [Value.int .i64 x.1.b, .int .i64 x.1.t, x.2][k]? = some u → W.cell? (a.add (i * 3 + k)) = some u := fun i hil => by
      obtain ⟨cs', hc, ht⟩ := hi i (by omega)
      obtain ⟨s, ev, rfl, hx⟩ := sec_trod ht
      obtain ⟨_, hcl, hat⟩ := World.cells?_some hc
      refine ⟨(s, ev), hx, fun k u hk => ?_⟩
      have hlk := (List.getElem?_eq_some_iff.1 hk).1
      have h3 : [Value.int .i64 s.b, .int .i64 s.t, ev].length = 3 := rfl
      have := hat k (by rw [cellsOf_sec]; omega)
      rw [cellsOf_sec] at this
      rw [← Go.Deep.add_add, this, hk]
    obtain ⟨l, hll, hp⟩ := list_at len key
    refine ⟨l.map (·.1), ?_⟩
    by_cases h0 : len = 0
    · subst h0
      have : l = [] := List.eq_nil_of_length_eq_zero hll
      subst this
      exact Or.inl ⟨rfl, _, _, rfl⟩
    · obtain ⟨x0, hx0⟩ : ∃ x, l[0]? = some x := ⟨_, List.getElem?_eq_getElem (by omega)⟩
      have c0 := (hp 0 x0 hx0).2 0 _ rfl
      obtain ⟨b, off, spot⟩ := a
      have hspot : spot = none := by simpa [Addr.add] using World.cell?_spot c0
      subst hspot
      have hb : b < W.heap.size := by simpa [Addr.add] using cell_in c0
      refine Or.inr ⟨l.map (·.2), by simp, ⟨by rw [scC_size, List.length_map], ?_⟩, fun k s ev hs hev => ?_⟩
      · rw [List.length_map, hll]
        refine Or.inr ⟨b, off, cap, rfl, hl, hm, hb, fun j u hj => ?_⟩
        obtain ⟨x, hx, hk⟩ := scC_of hj
        have := (hp _ x hx).2 _ u hk
        rw [show j / 3 * 3 + j % 3 = j by omega] at this
        rw [← add_any]
        exact this
      · rw [List.getElem?_map] at hs hev
        obtain ⟨x, hx, rfl⟩ := Option.map_eq_some_iff.1 hs
        rw [hx] at hev
        simp at hev
        subst hev
        exact (hp _ x hx).1

/-- A slice of texts that came in. -/
theorem strs_in {H : Type} {enc : TypeId × Value → H} {W : World} {base : Nat} {v : Value} {d : DataW H} {p : List MemPlace}
    (hv : Value.okWide Try.prog W .any base 43 v) (h : DataW.Trod enc Try.prog W 0 (fun _ => true) true 43 v d p) :
    ∃ l : List ByteArray, l.length ≤ maxLen ∧ StrsAt W v l ∧ ∀ s ∈ l, s.size ≤ maxLen := by
  obtain ⟨a0, len, cap, rfl⟩ := okWide_slice Try.underlying43 hv
  obtain ⟨fuel, hf⟩ := h
  rcases open_strings Try.underlying43 Try.underlying9 cellsOf_t hf with ⟨hcs, _⟩ | ⟨a, len', cap', ss, hcs, _, hl, hm, hz, _, hcell, hsz⟩
  · simp [Value.cells] at hcs
    obtain ⟨rfl, rfl, rfl⟩ := hcs
    exact ⟨[], Nat.zero_le _, Or.inl ⟨rfl, _, _, rfl⟩, fun s hs => by cases hs⟩
  · simp [Value.cells] at hcs
    obtain ⟨rfl, rfl, rfl⟩ := hcs
    simp only [if_true] at hz
    have htl : (ss.take len).length = len := by rw [List.length_take]; omega
    refine ⟨ss.take len, by omega, ?_, fun s hs => hsz s (List.mem_of_mem_take hs)⟩
    by_cases h0 : len = 0
    · subst h0
      exact Or.inl ⟨by simp, _, _, rfl⟩
    · obtain ⟨b, off, spot⟩ := a
      have c0 := hcell 0 (by omega)
      have hspot : spot = none := by simpa [Addr.add] using World.cell?_spot c0
      subst hspot
      have hb : b < W.heap.size := by simpa [Addr.add] using cell_in c0
      refine Or.inr ⟨by rw [List.length_map, htl]; omega, ?_⟩
      rw [htl]
      refine Or.inr ⟨b, off, cap, rfl, hl, hm, hb, fun j u hj => ?_⟩
      have hjl := (List.getElem?_eq_some_iff.1 hj).1
      rw [List.length_map, htl] at hjl
      rw [List.getElem?_map, List.getElem?_take_of_lt hjl, List.getElem?_eq_getElem (by omega)] at hj
      have hc := hcell j (by omega)
      rw [List.getD_eq_getElem?_getD, List.getElem?_eq_getElem (by omega)] at hc
      rw [add_any] at hc
      rw [hc]
      simpa using hj
end Go.Proofs.Ytpfefbpmchigeaa
