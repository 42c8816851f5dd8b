/- l20Way: an interval is drawn. -/
import Derived.Test.YtefbphmlhghojaaDoorWalksDraw
import Derived.Test.YtefbphmlhghojaaDoorOwnDraw
import Derived.Test.YtefbphmlhghojaaDoorWalksKey
import Derived.Test.YtefbphmlhghojaaDoorPure2
namespace Go.Proofs.YtefbphmlhghojaaDoor
set_option linter.unusedSimpArgs false
set_option linter.unusedVariables false
open Go.RowKit

/-- An interval in a block of its own; and what of the call's memory is known beside it. -/
def LW (w0 : World) (r q : Nat) (P B : Int) (W : World) : Prop :=
  Rd W r P ∧ ButR r w0 W ∧ w0.heap.size < q ∧ q < W.heap.size ∧ (W.frozen? ⟨w0.heap.size, 0, none⟩ = false ∧ W.frozen? ⟨w0.heap.size, 1, none⟩ = false) ∧
  (∃ x y, W.cell? ⟨w0.heap.size, 0, none⟩ = some x ∧ W.cell? ⟨w0.heap.size, 1, none⟩ = some y) ∧
  (W.frozen? ⟨q, 0, none⟩ = false ∧ W.frozen? ⟨q, 1, none⟩ = false) ∧
  ∃ st ha : Int, (-100 ≤ st ∧ st ≤ 100) ∧ (-B ≤ ha ∧ ha ≤ B) ∧ W.cell? ⟨q, 0, none⟩ = some (.int .i64 st) ∧ W.cell? ⟨q, 1, none⟩ = some (.int .i64 ha)

theorem LW.picked {w0 W W' : World} {r q : Nat} {P Q B : Int} (h : LW w0 r q P B W) (hr : Rd W' r Q) (hb : ButR r W W') (hr0 : r < w0.heap.size) : LW w0 r q Q B W' := by
  obtain ⟨h1, h2, h3, h4, ⟨f0, f1⟩, ⟨x, y, c0, c1⟩, ⟨g0, g1⟩, s, a, hs, ha, d0, d1⟩ := h
  obtain ⟨hc, hf⟩ := hb.cells
  have n0 : w0.heap.size < W.heap.size := by omega
  refine ⟨hr, h2.trans hb, h3, by have := hb.size; omega, ⟨?_, ?_⟩, ⟨x, y, ?_, ?_⟩, ⟨?_, ?_⟩, s, a, hs, ha, ?_, ?_⟩
  · rw [hf _ _ n0 (by omega), f0]
  · rw [hf _ _ n0 (by omega), f1]
  · rw [hc _ _ n0 (by omega), c0]
  · rw [hc _ _ n0 (by omega), c1]
  · rw [hf _ _ h4 (by omega), g0]
  · rw [hf _ _ h4 (by omega), g1]
  · rw [hc _ _ h4 (by omega), d0]
  · rw [hc _ _ h4 (by omega), d1]

theorem LW.alloc {w0 W : World} {r q : Nat} {P B : Int} (h : LW w0 r q P B W) (hr0 : r < w0.heap.size) (o : Obj) : LW w0 r q P B (W.alloc o) :=
  h.picked (h.1.below (below1 o)) (.of_below (below1 o)) hr0
theorem LW.drew {w0 W : World} {r q : Nat} {P B : Int} (h : LW w0 r q P B W) (hr0 : r < w0.heap.size) : LW w0 r q P B W.drew :=
  h.picked (h.1.below (below_drew1 _)) (.of_below (below_drew1 _)) hr0

/-- One of the interval's numbers is set anew. -/
theorem LW.set {w0 W : World} {r q : Nat} {P B C : Int} (h : LW w0 r q P B W) (hr0 : r < w0.heap.size) (hB : B ≤ C) (i : Nat) (x : Int) (hi : (i = 0 ∧ -100 ≤ x ∧ x ≤ 100) ∨ (i = 1 ∧ -C ≤ x ∧ x ≤ C)) :
    LW w0 r q P C (W.setCell ⟨q, i, none⟩ (.int .i64 x)) := by
  obtain ⟨h1, h2, h3, h4, ⟨f0, f1⟩, ⟨u, y, c0, c1⟩, ⟨g0, g1⟩, s, a, hs, ha, d0, d1⟩ := h
  have hR : Rd (W.setCell ⟨q, i, none⟩ (.int .i64 x)) r P := h1.keep ((Below.refl _ _).setCell (by show r + 1 ≤ q; omega) _)
  refine ⟨hR, h2.setCell (Or.inl (by show w0.heap.size ≤ q; omega)) _, h3, by simpa using h4, ⟨?_, ?_⟩, ⟨u, y, ?_, ?_⟩, ⟨?_, ?_⟩, ?_⟩
  · simpa using f0
  · simpa using f1
  · rw [World.cell?_setCell_other W ⟨q, i, none⟩ _ _ (fun e => by have e2 := congrArg Addr.block e; simp at e2; omega), c0]
  · rw [World.cell?_setCell_other W ⟨q, i, none⟩ _ _ (fun e => by have e2 := congrArg Addr.block e; simp at e2; omega), c1]
  · simpa using g0
  · simpa using g1
  · rcases hi with ⟨rfl, b0, b1⟩ | ⟨rfl, b0, b1⟩
    · exact ⟨x, a, ⟨b0, b1⟩, by omega, World.cell?_setCell_same _ _ _ d0, by rw [World.cell?_setCell_other W ⟨q, 0, none⟩ _ _ (by simp), d1]⟩
    · exact ⟨s, x, hs, ⟨b0, b1⟩, by rw [World.cell?_setCell_other W ⟨q, 1, none⟩ _ _ (by simp), d0], World.cell?_setCell_same _ _ _ d1⟩

theorem LW.mono {w0 W : World} {r q : Nat} {P Q B C : Int} (h : LW w0 r q P B W) (hq : P ≤ Q) (hB : B ≤ C) : LW w0 r q Q C W := by
  obtain ⟨h1, h2, h3, h4, h5, h6, h7, s, a, hs, ha, d0, d1⟩ := h
  exact ⟨h1.mono hq, h2, h3, h4, h5, h6, h7, s, a, hs, by omega, d0, d1⟩

/-- The interval's block is laid. -/
theorem LW.start {w0 W : World} {r : Nat} {P st ha B : Int} {t t' : TypeId} (hr : Rd W r P) (hb : ButR r (w0.alloc (.cells #[.int .i64 0, .int .i64 0] t)) W) (hr0 : r < w0.heap.size) (hs : -100 ≤ st ∧ st ≤ 100) (ho : -B ≤ ha ∧ ha ≤ B) :
    LW w0 r W.heap.size P B (W.alloc (.cells #[.int .i64 st, .int .i64 ha] t')) := by
  have hz := hb.size
  simp at hz
  obtain ⟨hc, hf⟩ := hb.cells
  have n0 : w0.heap.size < (w0.alloc (.cells #[.int .i64 0, .int .i64 0] t)).heap.size := by simp
  refine ⟨hr.below (below1 _), (((ButR.refl r w0).alloc _).trans hb).alloc _, by omega, by simp, ⟨?_, ?_⟩, ⟨.int .i64 0, .int .i64 0, ?_, ?_⟩, ⟨World.frozen?_alloc_at _ _ _ _ rfl, World.frozen?_alloc_at _ _ _ _ rfl⟩, st, ha, hs, ho, by simp, by simp⟩
  · rw [((Below.refl W.heap.size W).alloc (Nat.le_refl _) _).frozen (p := ⟨w0.heap.size, 0, none⟩) (by show w0.heap.size < _; omega), hf _ _ n0 (by omega)]; exact World.frozen?_alloc_at _ _ _ _ rfl
  · rw [((Below.refl W.heap.size W).alloc (Nat.le_refl _) _).frozen (p := ⟨w0.heap.size, 1, none⟩) (by show w0.heap.size < _; omega), hf _ _ n0 (by omega)]; exact World.frozen?_alloc_at _ _ _ _ rfl
  · rw [World.cell?_alloc_lt W _ _ (by show w0.heap.size < _; omega), hc _ _ n0 (by omega)]; simp
  · rw [World.cell?_alloc_lt W _ _ (by show w0.heap.size < _; omega), hc _ _ n0 (by omega)]; simp

theorem LW.done {w0 W : World} {r q : Nat} {P Q B : Int} (h : LW w0 r q P B W) (hr0 : r < w0.heap.size) (hq : P ≤ Q) (x y : Value) :
    Rd ((W.setCell ⟨w0.heap.size, 0, none⟩ x).setCell ⟨w0.heap.size, 1, none⟩ y) r Q ∧ ButR r w0 ((W.setCell ⟨w0.heap.size, 0, none⟩ x).setCell ⟨w0.heap.size, 1, none⟩ y) :=
  ⟨(h.1.keep (((Below.refl _ _).setCell (by show r + 1 ≤ w0.heap.size; omega) _).setCell (by show r + 1 ≤ w0.heap.size; omega) _)).mono hq,
   (h.2.1.setCell (Or.inl (Nat.le_refl _)) _).setCell (Or.inl (Nat.le_refl _)) _⟩

/-- What drawing an interval leaves. -/
def DrewV (r : Nat) (P : Int) (w : World) (e : Ending) (w' : World) : Prop :=
  ∃ st ha : Int, (-100 ≤ st ∧ st ≤ 100) ∧ (-9223372036854775807 ≤ ha ∧ ha ≤ 9223372036854775807) ∧ e = .returned (.agg #[.int .i64 st, .int .i64 ha]) ∧ Rd w' r (P + 20) ∧ ButR r w w'

/-- One of six, by a number. -/
def six (x d : Int) : Int := if x = 3 then -1 else if x = 4 then 1 else if x = 5 then d else 0
theorem six_at {W W' : World} {r : Nat} {d x : Int} {t : TypeId} (hb : ButR r (W.alloc (.cells #[.int .i64 0, .int .i64 0, .int .i64 0, .int .i64 (-1), .int .i64 1, .int .i64 d] t)) W') (hr : r < W.heap.size) (x0 : 0 ≤ x) (x1 : x < 6) :
    W'.cell? ⟨W.heap.size, x.toNat, none⟩ = some (.int .i64 (six x d)) := by
  obtain ⟨hc, _⟩ := hb.cells
  rw [hc _ _ (by simp) (by omega)]
  rcases (show x = 0 ∨ x = 1 ∨ x = 2 ∨ x = 3 ∨ x = 4 ∨ x = 5 by omega) with rfl | rfl | rfl | rfl | rfl | rfl <;> simp [six]
theorem six_bd {x d : Int} (h : -3 ≤ d ∧ d ≤ 3) : -3 ≤ six x d ∧ six x d ≤ 3 := by unfold six; (repeat' split) <;> omega

/-- One of three, by a number. -/
def tri (x a b c : Int) : Int := if x = 0 then a else if x = 1 then b else c
theorem tri_at {W W' : World} {r : Nat} {a b c x : Int} {t : TypeId} (hb : ButR r (W.alloc (.cells #[.int .i64 a, .int .i64 b, .int .i64 c] t)) W') (hr : r < W.heap.size) (x0 : 0 ≤ x) (x1 : x < 3) :
    W'.cell? ⟨W.heap.size, x.toNat, none⟩ = some (.int .i64 (tri x a b c)) := by
  obtain ⟨hc, _⟩ := hb.cells
  rw [hc _ _ (by simp) (by omega)]
  rcases (show x = 0 ∨ x = 1 ∨ x = 2 by omega) with rfl | rfl | rfl <;> simp [tri]
theorem tri_bd (x : Int) : -9223372036854775807 ≤ tri x 61 (-61) 9223372036854775807 ∧ tri x 61 (-61) 9223372036854775807 ≤ 9223372036854775807 := by unfold tri; (repeat' split) <;> omega
theorem sel_at {W : World} {a b x : Int} {t : TypeId} (x0 : 0 ≤ x) (x1 : x < 2) : (W.alloc (.cells #[.int .i64 a, .int .i64 b] t)).cell? ⟨W.heap.size, x.toNat, none⟩ = some (.int .i64 (sel x a b)) := by
  rcases (show x = 0 ∨ x = 1 by omega) with rfl | rfl <;> simp [sel]
theorem sel_in {a b x : Int} (x0 : 0 ≤ x) (x1 : x < 2) : (#[Value.int .i64 a, Value.int .i64 b] : Array Value)[x.toNat]? = some (.int .i64 (sel x a b)) := by
  rcases (show x = 0 ∨ x = 1 by omega) with rfl | rfl <;> simp [sel]

/-- To what the call owns, and back. -/
theorem LW.own {w0 W : World} {r q : Nat} {P C cx cy st ha : _} (h : LW w0 r q P C W) (hr0 : r < w0.heap.size) (c0 : W.cell? ⟨w0.heap.size, 0, none⟩ = some cx) (c1 : W.cell? ⟨w0.heap.size, 1, none⟩ = some cy) (d0 : W.cell? ⟨q, 0, none⟩ = some st) (d1 : W.cell? ⟨q, 1, none⟩ = some ha) :
    Own w0.heap.size (ButR r w0) W [.blk q [st, ha], .blk w0.heap.size [cx, cy]] := by
  obtain ⟨h1, h2, h3, h4, ⟨f0, f1⟩, _, ⟨g0, g1⟩, _⟩ := h
  refine ⟨⟨⟨⟨⟨d0, g0⟩, ⟨d1, g1⟩, trivial⟩, by omega, h4⟩, ?_⟩, ⟨⟨⟨⟨c0, f0⟩, ⟨c1, f1⟩, trivial⟩, Nat.le_refl _, by omega⟩, by simp⟩, Stab.but hr0, h2⟩
  intro x hx
  simp at hx
  subst hx
  exact ⟨by show w0.heap.size ≠ q; omega, by show q ≠ w0.heap.size; omega⟩
theorem LW.of_own {w0 W : World} {r q : Nat} {P C st ha : Int} {cx cy : Value} {L : List Item} (hO : Own w0.heap.size (ButR r w0) W L) (hR : Rd W r P) (hq : Item.blk q [.int .i64 st, .int .i64 ha] ∈ L) (h0 : Item.blk w0.heap.size [cx, cy] ∈ L) (hlt : w0.heap.size < q) (hs : -100 ≤ st ∧ st ≤ 100) (ho : -C ≤ ha ∧ ha ≤ C) :
    LW w0 r q P C W := by
  obtain ⟨⟨d0, g0⟩, ⟨d1, g1⟩, _⟩ := hO.cells hq
  obtain ⟨⟨c0, f0⟩, ⟨c1, f1⟩, _⟩ := hO.cells h0
  exact ⟨hR, hO.base, hlt, (hO.lt _ hq _ rfl).2, ⟨f0, f1⟩, ⟨cx, cy, c0, c1⟩, ⟨g0, g1⟩, st, ha, hs, ho, d0, d1⟩
/-- The chosen one of two, in whatever world owns the pair. -/
theorem Own.sel_at {n : Nat} {B : World → Prop} {w : World} {b : Nat} {x a c : Int} {L : List Item} (h : Own n B w L) (hm : Item.blk b [.int .i64 a, .int .i64 c] ∈ L) (x0 : 0 ≤ x) (x1 : x < 2) : w.cell? ⟨b, x.toNat, none⟩ = some (.int .i64 (sel x a c)) := by
  obtain ⟨⟨d0, _⟩, ⟨d1, _⟩, _⟩ := h.cells hm
  rcases (show x = 0 ∨ x = 1 by omega) with rfl | rfl
  · simpa [sel] using d0
  · simpa [sel] using d1