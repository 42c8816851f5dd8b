/- For the tied cards: what the laid intervals of answers give a walk. -/
import Derived.Test.YtcgcnkddgihkpaaDoorLawDoor
import Derived.Test.YtcgcnkddgihkpaaDoorWalks17I
namespace Go.Proofs.YtcgcnkddgihkpaaDoor
set_option linter.unusedSimpArgs false
set_option linter.unusedVariables false
set_option maxRecDepth 8000
open Go.ChangeShapes Go.WideShapes Go.ChangeAt Go.RowKit Go.Joins Go.Deep

theorem vars_four {H : Type} {enc : TypeId × Value → H} {P : Program} {w : World} {spare : Nat → Bool} {n m l k : String} {gs : List (DataW H)} {ps : List MemPlace}
    (h : DataW.TrodVars enc P w spare [n, m, l, k] gs ps) : ∃ d e f g, gs = [d, e, f, g] := by
  obtain ⟨d, ds, q, rfl, h2⟩ := vars_cons h
  obtain ⟨e, f, g, rfl⟩ := vars_three h2
  exact ⟨d, e, f, g, rfl⟩

/-- A variable that is a struct of two numbers and stands first on the list. -/
theorem pairIs_of_head {P : Program} {W : World} {name : String} {a b : Int} {rest : List (String × DataW Unit)} {g : Nat} {t : TypeId} {f0 f1 : Field}
    (hg : P.globalNamed name = some g) (hty : (P.globals[g]?).map (·.type) = some t) (hs : P.underlying t = some (.struct #[f0, f1])) (hone : oneCellFields P #[f0, f1] = true) (hC : P.cellsOf t = 2)
    (h0 : P.underlying f0.type = some (.int .i64)) (h1 : P.underlying f1.type = some (.int .i64))
    (h : laidMet P ((name, Lib.tabData .i64 [a, b]) :: rest) W) : Lib.TabIs P W name .i64 [a, b] := by
  obtain ⟨ps, ⟨g', t', cs, fuel, p, q, hg', ht', hvar, hd, _, _⟩, _⟩ := h
  obtain rfl := Option.some.inj (hg.symm.trans hg')
  obtain rfl := Option.some.inj (hty.symm.trans ht')
  unfold Lib.TabIs
  rw [hvar]
  obtain ⟨y0, y1, n, hx, hl, e0, e1⟩ := trod_struct2 hs hd
  obtain ⟨o0, k0⟩ := hone_of hone 0 f0 rfl
  obtain ⟨o1, k1⟩ := hone_of hone 1 f1 rfl
  rw [hC] at hl
  simp only [Array.length_toList] at hl
  obtain ⟨c0, c1, rfl⟩ := array2 hl
  obtain ⟨z0, v0, u0, _⟩ := DataW.trod_int h0 e0
  obtain ⟨z1, v1, u1, _⟩ := DataW.trod_int h1 e1
  simp only [Lib.tabData, List.map_cons, List.map_nil, Prod.mk.injEq, DataW.agg.injEq, List.cons.injEq, and_true] at hx
  obtain ⟨⟨x0, x1⟩, _⟩ := hx
  rw [u0] at x0
  rw [u1] at x1
  simp only [DataW.lit.injEq, Lit.int.injEq, true_and] at x0 x1
  subst x0 x1
  rw [o0, k0] at v0
  rw [o1, k1] at v1
  simp at v0 v1
  simp [v0, v1]

theorem tabU5_of_laid {W : World} {l : List (String × DataW Unit)} (hl : l.filter (fun x => x.1 == "loop.example/musicengine/impl.fifthUp") = [("loop.example/musicengine/impl.fifthUp", Lib.tabData .i64 [4, 7])])
    (h : laidMetH Tryd.prog l W) : TabU5 W := by
  have h' := laidMetH.filter (fun x => x.1 == "loop.example/musicengine/impl.fifthUp") h
  rw [hl, MakeChecks.laidMetH_plain _ _ _ (by kernel_rfl)] at h'
  exact pairIs_of_head gU5 (by kernel_rfl) Tryd.underlying31 (by kernel_rfl) (by kernel_rfl) Tryd.underlying3 Tryd.underlying3 h'

theorem tabU4_of_laid {W : World} {l : List (String × DataW Unit)} (hl : l.filter (fun x => x.1 == "loop.example/musicengine/impl.fourthUp") = [("loop.example/musicengine/impl.fourthUp", Lib.tabData .i64 [3, 5])])
    (h : laidMetH Tryd.prog l W) : TabU4 W := by
  have h' := laidMetH.filter (fun x => x.1 == "loop.example/musicengine/impl.fourthUp") h
  rw [hl, MakeChecks.laidMetH_plain _ _ _ (by kernel_rfl)] at h'
  exact pairIs_of_head gU4 (by kernel_rfl) Tryd.underlying31 (by kernel_rfl) (by kernel_rfl) Tryd.underlying3 Tryd.underlying3 h'
end Go.Proofs.YtcgcnkddgihkpaaDoor
