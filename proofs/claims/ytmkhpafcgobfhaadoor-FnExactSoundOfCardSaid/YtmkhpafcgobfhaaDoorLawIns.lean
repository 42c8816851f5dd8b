/- Instruments that came in, by value: their cells. -/
import Derived.Test.YtmkhpafcgobfhaaDoorLawNotes
import Derived.Test.YtmkhpafcgobfhaaDoorCon9
namespace Go.Proofs.YtmkhpafcgobfhaaDoor
set_option linter.unusedSimpArgs false
set_option linter.unusedVariables false
set_option maxRecDepth 8000
open Go.ChangeShapes Go.WideShapes Go.ChangeAt Go.RowKit Go.Joins
set_option maxRecDepth 8000

theorem cellsOf_iv : Tryd.prog.cellsOf 23 = 2 := by kernel_rfl
theorem cellsOf_ins : Tryd.prog.cellsOf 25 = 4 := by kernel_rfl

section
variable {H : Type} {enc : TypeId × Value → H} {w : World} {base : Nat} {sp : Nat → Bool} {held : Bool}
theorem iv_trod {fuel : Nat} {cs : List Value} {x : DataW H × List MemPlace} (h : DataW.trod enc Tryd.prog w base sp held fuel 23 cs = some x) :
    ∃ s a : Int, cs = [.int .i64 s, .int .i64 a] ∧ (Lit.int .i64 s).wf = true ∧ (Lit.int .i64 a).wf = true := by
  obtain ⟨xs, n, _, _, hlen, hxl, hf⟩ := DataW.trod_struct Tryd.underlying23 h
  rw [cellsOf_iv] at hlen
  have hxl' : xs.length = 2 := hxl
  have h0 : DataW.trod enc Tryd.prog w base sp held n 3 ((cs.drop 0).take (Tryd.prog.cellsOf 3)) = xs[0]? := hf 0 _ rfl
  have h1 : DataW.trod enc Tryd.prog w base sp held n 3 ((cs.drop 1).take (Tryd.prog.cellsOf 3)) = xs[1]? := hf 1 _ rfl
  rw [cellsOf_int] at h0 h1
  obtain ⟨y0, e0⟩ := some_of_len (i := 0) hxl' (by omega)
  obtain ⟨y1, e1⟩ := some_of_len (i := 1) hxl' (by omega)
  rw [e0] at h0
  rw [e1] at h1
  match cs, hlen with
  | [c0, c1], _ =>
    obtain ⟨s, g0, _, w0⟩ := DataW.trod_int Tryd.underlying3 h0
    obtain ⟨a, g1, _, w1⟩ := DataW.trod_int Tryd.underlying3 h1
    simp at g0 g1
    subst g0 g1
    exact ⟨s, a, rfl, w0, w1⟩
theorem ins_trod {fuel : Nat} {cs : List Value} {x : DataW H × List MemPlace} (h : DataW.trod enc Tryd.prog w base sp held fuel 25 cs = some x) :
    ∃ st ha lo hi : Int, cs = [.int .i64 st, .int .i64 ha, .int .i64 lo, .int .i64 hi] ∧ i64s st ha lo hi := by
  obtain ⟨xs, n, _, _, hlen, hxl, hf⟩ := DataW.trod_struct Tryd.underlying25 h
  rw [cellsOf_ins] at hlen
  have hxl' : xs.length = 3 := hxl
  have h0 : DataW.trod enc Tryd.prog w base sp held n 23 ((cs.drop 0).take (Tryd.prog.cellsOf 23)) = xs[0]? := hf 0 _ rfl
  have h1 : DataW.trod enc Tryd.prog w base sp held n 3 ((cs.drop 2).take (Tryd.prog.cellsOf 3)) = xs[1]? := hf 1 _ rfl
  have h2 : DataW.trod enc Tryd.prog w base sp held n 3 ((cs.drop 3).take (Tryd.prog.cellsOf 3)) = xs[2]? := hf 2 _ rfl
  rw [cellsOf_iv] at h0
  rw [cellsOf_int] at h1 h2
  obtain ⟨y0, e0⟩ := some_of_len (i := 0) hxl' (by omega)
  obtain ⟨y1, e1⟩ := some_of_len (i := 1) hxl' (by omega)
  obtain ⟨y2, e2⟩ := some_of_len (i := 2) hxl' (by omega)
  rw [e0] at h0
  rw [e1] at h1
  rw [e2] at h2
  match cs, hlen with
  | [c0, c1, c2, c3], _ =>
    obtain ⟨s, a, g0, w0, w1⟩ := iv_trod h0
    obtain ⟨l, g2, _, w2⟩ := DataW.trod_int Tryd.underlying3 h1
    obtain ⟨u, g3, _, w3⟩ := DataW.trod_int Tryd.underlying3 h2
    simp at g0 g2 g3
    obtain ⟨g0, g1⟩ := g0
    subst g0 g1 g2 g3
    exact ⟨s, a, l, u, rfl, wf64 w0, wf64 w1, wf64 w2, wf64 w3⟩
end

/-- An instrument that came in, by value. -/
theorem ins_in {H : Type} {enc : TypeId × Value → H} {W : World} {base : Nat} {v : Value} {d : DataW H} {p : List MemPlace}
    (hv : Value.okWide Tryd.prog W .any base 25 v) (h : DataW.Trod enc Tryd.prog W 0 (fun _ => true) true 25 v d p) :
    ∃ st ha lo hi : Int, v = .agg #[.int .i64 st, .int .i64 ha, .int .i64 lo, .int .i64 hi] ∧ i64s st ha lo hi := by
  obtain ⟨cs, rfl, _⟩ := okWide_struct Tryd.underlying25 hv
  obtain ⟨fuel, hf⟩ := h
  obtain ⟨st, ha, lo, hi, hx, h64⟩ := ins_trod hf
  refine ⟨st, ha, lo, hi, ?_, h64⟩
  obtain ⟨l⟩ := cs
  have hl : l = [.int .i64 st, .int .i64 ha, .int .i64 lo, .int .i64 hi] := by simpa [Value.cells] using hx
  subst hl
  rfl
end Go.Proofs.YtmkhpafcgobfhaaDoor
