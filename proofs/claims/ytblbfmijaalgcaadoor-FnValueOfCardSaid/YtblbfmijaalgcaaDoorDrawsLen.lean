/- The functions that draw numbers of ticks for a law of chapter 4. -/
import Derived.Test.YtblbfmijaalgcaaDoorWalksWay
import Derived.Test.YtblbfmijaalgcaaDoorWalksDrawP
namespace Go.Proofs.YtblbfmijaalgcaaDoor
set_option linter.unusedSimpArgs false
set_option linter.unusedVariables false
open Go.RowKit

/-- What drawing a number of ticks leaves. -/
def DrewN (w : World) (e : Ending) (w' : World) : Prop := ∃ n : Int, (-1 ≤ n ∧ n ≤ 1000) ∧ e = .returned (.int .i64 n) ∧ Below w.heap.size w w'

/-- One of a row of numbers in a block that is owned. -/
theorem Own.int_in {n : Nat} {B : World → Prop} {w : World} {b : Nat} {x lo hi : Int} {L : List Item} (us : List Int) (h : Own n B w L) (hm : Item.blk b (us.map (Value.int .i64)) ∈ L) (x0 : 0 ≤ x) (x1 : x < us.length) (hb : ∀ u ∈ us, lo ≤ u ∧ u ≤ hi) :
    ∃ u, (lo ≤ u ∧ u ≤ hi) ∧ w.cell? ⟨b, x.toNat, none⟩ = some (.int .i64 u) := by
  obtain ⟨u, hu, hc⟩ := h.int_some us hm x0 x1
  exact ⟨u, hb u hu, hc⟩

set_option maxHeartbeats 4000000 in
theorem DrawTiedTicks_any (v : Value) (n : Nat) (w : World) (hn : n ≤ maxLen) (h : BytesB w w.heap.size v n) :
    Calls Tryd.prog 22 #[v] w (DrewN w) := by
  go_enter Tryd.func22, Tryd.ntmps22
  go_wp2_with fail
  refine (open_any v n _ hn h).mono ?_
  rintro e w1 ⟨r, hr, rfl, hR, hb⟩
  go_wp2_with fail
  refine (pick_any r 0 64 _ hR (by omega) (by omega) (by omega)).mono ?_
  rintro e w2 ⟨x, x0, x1, rfl, hR2, hB2⟩
  have hb2 := hB2.below hb hr
  go_wp2_with fail
  refine (pick_any r (0 + 1) 256 _ hR2 (by omega) (by omega) (by omega)).mono ?_
  rintro e w3 ⟨y, y0, y1, rfl, hR3, hB3⟩
  have hb3 := hB3.below hb2 hr
  go_wp2_with fail
  refine (pick_any r (0 + 1 + 1) 256 _ hR3 (by omega) (by omega) (by omega)).mono ?_
  rintro e w4 ⟨z, z0, z1, rfl, hR4, hB4⟩
  have hb4 := hB4.below hb3 hr
  clear hR hR2 hR3 hB2 hB3 hB4 hb hb2 hb3
  go_wp2_with fail
  have hO := (((Own.start w).below hb4).alloc (t := 3) (vs := [x * 12, y, z * 3, 768, 769, 0].map (Value.int .i64))).alloc (t := 3) (vs := [0, 0, 0, 1, 2, 3, 4, 5].map (Value.int .i64))
  have hlt := hR4.lt
  simp only [World.size_alloc1] at hO
  refine (pick_any r (0 + 1 + 1 + 1) 8 _ ((hR4.below (below1 _)).below (below1 _)) (by omega) (by omega) (by omega)).mono ?_
  rintro e w5 ⟨g, g0, g1, rfl, hR5, hB5⟩
  replace hO := hO.drawn hB5 hr (by intro x hx e; simp only [List.mem_cons, List.not_mem_nil, or_false] at hx; rcases hx with rfl | rfl <;> (simp only [Item.at?, Option.some.injEq] at e; omega))
  obtain ⟨u, hu, hc1⟩ := hO.int_in (b := w4.heap.size + 1) (lo := 0) (hi := 5) (x := g) [0, 0, 0, 1, 2, 3, 4, 5] (by simp) g0 (by simpa using g1) (by decide)
  obtain ⟨s, hs, hc2⟩ := hO.int_in (b := w4.heap.size) (lo := -1) (hi := 1000) (x := u) [x * 12, y, z * 3, 768, 769, 0] (by simp) hu.1 (by simp; omega) (by intro u hu; simp at hu; omega)
  have hB := hO.base
  clear hO hR4 hb4 hR5 hB5
  go_wp2
  go_ret
  exact ⟨s, hs, rfl, hB⟩
end Go.Proofs.YtblbfmijaalgcaaDoor
