/- l20Way: an interval is drawn. -/
import Derived.Test.YtcmhfjpofkgjbaaDoorWalksDraw
import Derived.Test.YtcmhfjpofkgjbaaDoorOwnDraw
import Derived.Test.YtcmhfjpofkgjbaaDoorWalksKey
import Derived.Test.YtcmhfjpofkgjbaaDoorPure1
namespace Go.Proofs.YtcmhfjpofkgjbaaDoor
set_option linter.unusedSimpArgs false
set_option linter.unusedVariables false
set_option maxRecDepth 8000
open Go.RowKit

/-- An interval in a block of its own; and what of the call's memory is known beside it. -/
def LW (w0 : World) (r q : Nat) (P B : Int) (W : World) : Prop :=
  Rd W r P ∧ ButR r w0 W ∧ w0.heap.size < q ∧ q < W.heap.size ∧ (W.frozen? ⟨w0.heap.size, 0, none⟩ = false ∧ W.frozen? ⟨w0.heap.size, 1, none⟩ = false) ∧
  (∃ x y, W.cell? ⟨w0.heap.size, 0, none⟩ = some x ∧ W.cell? ⟨w0.heap.size, 1, none⟩ = some y) ∧
  (W.frozen? ⟨q, 0, none⟩ = false ∧ W.frozen? ⟨q, 1, none⟩ = false) ∧
  ∃ st ha : Int, (-100 ≤ st ∧ st ≤ 100) ∧ (-B ≤ ha ∧ ha ≤ B) ∧ W.cell? ⟨q, 0, none⟩ = some (.int .i64 st) ∧ W.cell? ⟨q, 1, none⟩ = some (.int .i64 ha)

theorem LW.picked {w0 W W' : World} {r q : Nat} {P Q B : Int} (h : LW w0 r q P B W) (hr : Rd W' r Q) (hb : ButR r W W') (hr0 : r < w0.heap.size) : LW w0 r q Q B W' := by
  obtain ⟨h1, h2, h3, h4, ⟨f0, f1⟩, ⟨x, y, c0, c1⟩, ⟨g0, g1⟩, s, a, hs, ha, d0, d1⟩ := h
  obtain ⟨hc, hf⟩ := hb.cells
  have n0 : w0.heap.size < W.heap.size := by omega
  refine ⟨hr, h2.trans hb, h3, by have := hb.size; omega, ⟨?_, ?_⟩, ⟨x, y, ?_, ?_⟩, ⟨?_, ?_⟩, s, a, hs, ha, ?_, ?_⟩
  · rw [hf _ _ n0 (by omega), f0]
  · rw [hf _ _ n0 (by omega), f1]
  · rw [hc _ _ n0 (by omega), c0]
  · rw [hc _ _ n0 (by omega), c1]
  · rw [hf _ _ h4 (by omega), g0]
  · rw [hf _ _ h4 (by omega), g1]
  · rw [hc _ _ h4 (by omega), d0]
  · rw [hc _ _ h4 (by omega), d1]

theorem LW.alloc {w0 W : World} {r q : Nat} {P B : Int} (h : LW w0 r q P B W) (hr0 : r < w0.heap.size) (o : Obj) : LW w0 r q P B (W.alloc o) :=
  h.picked (h.1.below (below1 o)) (.of_below (below1 o)) hr0
theorem LW.drew {w0 W : World} {r q : Nat} {P B : Int} (h : LW w0 r q P B W) (hr0 : r < w0.heap.size) : LW w0 r q P B W.drew :=
  h.picked (h.1.below (below_drew1 _)) (.of_below (below_drew1 _)) hr0

/-- One of the interval's numbers is set anew. -/
theorem LW.set {w0 W : World} {r q : Nat} {P B C : Int} (h : LW w0 r q P B W) (hr0 : r < w0.heap.size) (hB : B ≤ C) (i : Nat) (x : Int) (hi : (i = 0 ∧ -100 ≤ x ∧ x ≤ 100) ∨ (i = 1 ∧ -C ≤ x ∧ x ≤ C)) :
    LW w0 r q P C (W.setCell ⟨q, i, none⟩ (.int .i64 x)) := by
  obtain ⟨h1, h2, h3, h4, ⟨f0, f1⟩, ⟨u, y, c0, c1⟩, ⟨g0, g1⟩, s, a, hs, ha, d0, d1⟩ := h
  have hR : Rd (W.setCell ⟨q, i, none⟩ (.int .i64 x)) r P := h1.keep ((Below.refl _ _).setCell (by show r + 1 ≤ q; omega) _)
  refine ⟨hR, h2.setCell (Or.inl (by show w0.heap.size ≤ q; omega)) _, h3, by simpa using h4, ⟨?_, ?_⟩, ⟨u, y, ?_, ?_⟩, ⟨?_, ?_⟩, ?_⟩
  · simpa using f0
  · simpa using f1
  · rw [World.cell?_setCell_other W ⟨q, i, none⟩ _ _ (fun e => by have e2 := congrArg Addr.block e; simp at e2; omega), c0]
  · rw [World.cell?_setCell_other W ⟨q, i, none⟩ _ _ (fun e => by have e2 := congrArg Addr.block e; simp at e2; omega), c1]
  · simpa using g0
  · simpa using g1
  · rcases hi with ⟨rfl, b0, b1⟩ | ⟨rfl, b0, b1⟩
    · exact ⟨x, a, ⟨b0, b1⟩, by omega, World.cell?_setCell_same _ _ _ d0, by rw [World.cell?_setCell_other W ⟨q, 0, none⟩ _ _ (by simp), d1]⟩
    · exact ⟨s, x, hs, ⟨b0, b1⟩, by rw [World.cell?_setCell_other W ⟨q, 1, none⟩ _ _ (by simp), d0], World.cell?_setCell_same _ _ _ d1⟩

theorem LW.mono {w0 W : World} {r q : Nat} {P Q B C : Int} (h : LW w0 r q P B W) (hq : P ≤ Q) (hB : B ≤ C) : LW w0 r q Q C W := by
  obtain ⟨h1, h2, h3, h4, h5, h6, h7, s, a, hs, ha, d0, d1⟩ := h
  exact ⟨h1.mono hq, h2, h3, h4, h5, h6, h7, s, a, hs, by omega, d0, d1⟩

/-- The interval's block is laid. -/
theorem LW.start {w0 W : World} {r : Nat} {P st ha B : Int} {t t' : TypeId} (hr : Rd W r P) (hb : ButR r (w0.alloc (.cells #[.int .i64 0, .int .i64 0] t)) W) (hr0 : r < w0.heap.size) (hs : -100 ≤ st ∧ st ≤ 100) (ho : -B ≤ ha ∧ ha ≤ B) :
    LW w0 r W.heap.size P B (W.alloc (.cells #[.int .i64 st, .int .i64 ha] t')) := by
  have hz := hb.size
  simp at hz
  obtain ⟨hc, hf⟩ := hb.cells
  have n0 : w0.heap.size < (w0.alloc (.cells #[.int .i64 0, .int .i64 0] t)).heap.size := by simp
  refine ⟨hr.below (below1 _), (((ButR.refl r w0).alloc _).trans hb).alloc _, by omega, by simp, ⟨?_, ?_⟩, ⟨.int .i64 0, .int .i64 0, ?_, ?_⟩, ⟨World.frozen?_alloc_at _ _ _ _ rfl, World.frozen?_alloc_at _ _ _ _ rfl⟩, st, ha, hs, ho, by simp, by simp⟩
  · rw [((Below.refl W.heap.size W).alloc (Nat.le_refl _) _).frozen (p := ⟨w0.heap.size, 0, none⟩) (by show w0.heap.size < _; omega), hf _ _ n0 (by omega)]; exact World.frozen?_alloc_at _ _ _ _ rfl
  · rw [((Below.refl W.heap.size W).alloc (Nat.le_refl _) _).frozen (p := ⟨w0.heap.size, 1, none⟩) (by show w0.heap.size < _; omega), hf _ _ n0 (by omega)]; exact World.frozen?_alloc_at _ _ _ _ rfl
  · rw [World.cell?_alloc_lt W _ _ (by show w0.heap.size < _; omega), hc _ _ n0 (by omega)]; simp
  · rw [World.cell?_alloc_lt W _ _ (by show w0.heap.size < _; omega), hc _ _ n0 (by omega)]; simp

theorem LW.done {w0 W : World} {r q : Nat} {P Q B : Int} (h : LW w0 r q P B W) (hr0 : r < w0.heap.size) (hq : P ≤ Q) (x y : Value) :
    Rd ((W.setCell ⟨w0.heap.size, 0, none⟩ x).setCell ⟨w0.heap.size, 1, none⟩ y) r Q ∧ ButR r w0 ((W.setCell ⟨w0.heap.size, 0, none⟩ x).setCell ⟨w0.heap.size, 1, none⟩ y) :=
  ⟨(h.1.keep (((Below.refl _ _).setCell (by show r + 1 ≤ w0.heap.size; omega) _).setCell (by show r + 1 ≤ w0.heap.size; omega) _)).mono hq,
   (h.2.1.setCell (Or.inl (Nat.le_refl _)) _).setCell (Or.inl (Nat.le_refl _)) _⟩

/-- What drawing an interval leaves. -/
def DrewV (r : Nat) (P : Int) (w : World) (e : Ending) (w' : World) : Prop :=
  ∃ st ha : Int, (-100 ≤ st ∧ st ≤ 100) ∧ (-9223372036854775807 ≤ ha ∧ ha ≤ 9223372036854775807) ∧ e = .returned (.agg #[.int .i64 st, .int .i64 ha]) ∧ Rd w' r (P + 20) ∧ ButR r w w'

/-- One of six, by a number. -/
def six (x d : Int) : Int := if x = 3 then -1 else if x = 4 then 1 else if x = 5 then d else 0
theorem six_at {W W' : World} {r : Nat} {d x : Int} {t : TypeId} (hb : ButR r (W.alloc (.cells #[.int .i64 0, .int .i64 0, .int .i64 0, .int .i64 (-1), .int .i64 1, .int .i64 d] t)) W') (hr : r < W.heap.size) (x0 : 0 ≤ x) (x1 : x < 6) :
    W'.cell? ⟨W.heap.size, x.toNat, none⟩ = some (.int .i64 (six x d)) := by
  obtain ⟨hc, _⟩ := hb.cells
  rw [hc _ _ (by simp) (by omega)]
  rcases (show x = 0 ∨ x = 1 ∨ x = 2 ∨ x = 3 ∨ x = 4 ∨ x = 5 by omega) with rfl | rfl | rfl | rfl | rfl | rfl <;> simp [six]
theorem six_bd {x d : Int} (h : -3 ≤ d ∧ d ≤ 3) : -3 ≤ six x d ∧ six x d ≤ 3 := by unfold six; (repeat' split) <;> omega

/-- One of three, by a number. -/
def tri (x a b c : Int) : Int := if x = 0 then a else if x = 1 then b else c
theorem tri_at {W W' : World} {r : Nat} {a b c x : Int} {t : TypeId} (hb : ButR r (W.alloc (.cells #[.int .i64 a, .int .i64 b, .int .i64 c] t)) W') (hr : r < W.heap.size) (x0 : 0 ≤ x) (x1 : x < 3) :
    W'.cell? ⟨W.heap.size, x.toNat, none⟩ = some (.int .i64 (tri x a b c)) := by
  obtain ⟨hc, _⟩ := hb.cells
  rw [hc _ _ (by simp) (by omega)]
  rcases (show x = 0 ∨ x = 1 ∨ x = 2 by omega) with rfl | rfl | rfl <;> simp [tri]
theorem tri_bd (x : Int) : -9223372036854775807 ≤ tri x 61 (-61) 9223372036854775807 ∧ tri x 61 (-61) 9223372036854775807 ≤ 9223372036854775807 := by unfold tri; (repeat' split) <;> omega
theorem sel_at {W : World} {a b x : Int} {t : TypeId} (x0 : 0 ≤ x) (x1 : x < 2) : (W.alloc (.cells #[.int .i64 a, .int .i64 b] t)).cell? ⟨W.heap.size, x.toNat, none⟩ = some (.int .i64 (sel x a b)) := by
  rcases (show x = 0 ∨ x = 1 by omega) with rfl | rfl <;> simp [sel]
theorem sel_in {a b x : Int} (x0 : 0 ≤ x) (x1 : x < 2) : (#[Value.int .i64 a, Value.int .i64 b] : Array Value)[x.toNat]? = some (.int .i64 (sel x a b)) := by
  rcases (show x = 0 ∨ x = 1 by omega) with rfl | rfl <;> simp [sel]

/-- To what the call owns, and back. -/
theorem LW.own {w0 W : World} {r q : Nat} {P C cx cy st ha : _} (h : LW w0 r q P C W) (hr0 : r < w0.heap.size) (c0 : W.cell? ⟨w0.heap.size, 0, none⟩ = some cx) (c1 : W.cell? ⟨w0.heap.size, 1, none⟩ = some cy) (d0 : W.cell? ⟨q, 0, none⟩ = some st) (d1 : W.cell? ⟨q, 1, none⟩ = some ha) :
    Own w0.heap.size (ButR r w0) W [.blk q [st, ha], .blk w0.heap.size [cx, cy]] := by
  obtain ⟨h1, h2, h3, h4, ⟨f0, f1⟩, _, ⟨g0, g1⟩, _⟩ := h
  refine ⟨⟨⟨⟨⟨d0, g0⟩, ⟨d1, g1⟩, trivial⟩, by omega, h4⟩, ?_⟩, ⟨⟨⟨⟨c0, f0⟩, ⟨c1, f1⟩, trivial⟩, Nat.le_refl _, by omega⟩, by simp⟩, Stab.but hr0, h2⟩
  intro x hx
  simp at hx
  subst hx
  exact ⟨by show w0.heap.size ≠ q; omega, by show q ≠ w0.heap.size; omega⟩
theorem LW.of_own {w0 W : World} {r q : Nat} {P C st ha : Int} {cx cy : Value} {L : List Item} (hO : Own w0.heap.size (ButR r w0) W L) (hR : Rd W r P) (hq : Item.blk q [.int .i64 st, .int .i64 ha] ∈ L) (h0 : Item.blk w0.heap.size [cx, cy] ∈ L) (hlt : w0.heap.size < q) (hs : -100 ≤ st ∧ st ≤ 100) (ho : -C ≤ ha ∧ ha ≤ C) :
    LW w0 r q P C W := by
  obtain ⟨⟨d0, g0⟩, ⟨d1, g1⟩, _⟩ := hO.cells hq
  obtain ⟨⟨c0, f0⟩, ⟨c1, f1⟩, _⟩ := hO.cells h0
  exact ⟨hR, hO.base, hlt, (hO.lt _ hq _ rfl).2, ⟨f0, f1⟩, ⟨cx, cy, c0, c1⟩, ⟨g0, g1⟩, st, ha, hs, ho, d0, d1⟩
/-- The chosen one of two, in whatever world owns the pair. -/
theorem Own.sel_at {n : Nat} {B : World → Prop} {w : World} {b : Nat} {x a c : Int} {L : List Item} (h : Own n B w L) (hm : Item.blk b [.int .i64 a, .int .i64 c] ∈ L) (x0 : 0 ≤ x) (x1 : x < 2) : w.cell? ⟨b, x.toNat, none⟩ = some (.int .i64 (sel x a c)) := by
  obtain ⟨⟨d0, _⟩, ⟨d1, _⟩, _⟩ := h.cells hm
  rcases (show x = 0 ∨ x = 1 by omega) with rfl | rfl
  · simpa [sel] using d0
  · simpa [sel] using d1

set_option maxHeartbeats 4000000 in
theorem l20Way_any (r : Nat) (P n : Int) (w : World) (h : Rd w r P) (hP : P ≤ 900000) (n0 : 0 ≤ n) (n1 : n ≤ 1000000) :
    Calls Tryd.prog 59 #[.pointer (some ⟨r, 0, none⟩), .int .i64 n] w (DrewV r P w) := by
  have hr0 := h.lt
  go_enter Tryd.func59, Tryd.ntmps59
  go_wp2_with fail
  refine (pick_any r P 15 _ (h.below (below1 _)) (by omega) (by omega) (by omega)).mono ?_
  rintro e w1 ⟨x, x0, x1, rfl, hr1, hb1⟩
  have m1 : IntKind.i64.wrap (x - 7) = x - 7 := IntWalk.i64_in _ (by omega)
  have m2 : IntKind.i64.wrap (-(x - 7)) = -(x - 7) := IntWalk.i64_in _ (by omega)
  have HM := hid (And.intro m1 m2)
  clear m1 m2
  have nb : ∀ p : Int, 0 ≤ p → p ≤ 7 → 0 ≤ natZ p ∧ natZ p ≤ 23 := fun p h0 h7 => by have := natZ_bd h0; omega
  have NB := hid nb
  clear nb
  obtain ⟨m1, m2⟩ := HM.out
  go_upto_region 2 with fail
  go_cut [6] (fun s6 wx => ∃ q : Nat, s6 = .pointer (some ⟨q, 0, none⟩) ∧ LW w r q (P + 3) 100 wx)
  case first =>
    go_wp2_with (first
      | (go_at_call 57; refine (natural_any _ _ (by omega) (by omega)).mono ?_; rintro e w2 ⟨rfl, hb2⟩; have hr2 := hr1.below hb2; have hb12 := hb1.trans (ButR.of_below hb2))
      | (go_at_call 43; refine (pick_any _ _ _ _ hr2 (by omega) (by omega) (by omega)).mono ?_; rintro e w3 ⟨y, y0, y1, rfl, hr3, hb3⟩; have hb13 := hb12.trans hb3; clear hr2; have m3 : IntKind.i64.wrap (y - 3) = y - 3 := IntWalk.i64_in _ (by omega))
      | (go_at_call 43; refine (pick_any _ _ _ _ (hr3.below (below1 _)) (by omega) (by omega) (by omega)).mono ?_; rintro e w4 ⟨z, z0, z1, rfl, hr4, hb4⟩; have hsx := six_at hb4 hr3.lt z0 z1; have hsb := six_bd (x := z) (d := y - 3) (by omega);
          (first | (have hnb := NB.out (x - 7) (by omega) (by omega); have m4 : IntKind.i64.wrap (natZ (x - 7) + six z (y - 3)) = natZ (x - 7) + six z (y - 3) := IntWalk.i64_in _ (by omega)) | (have hnb := NB.out (-(x - 7)) (by omega) (by omega); have m4 : IntKind.i64.wrap (natZ (-(x - 7)) + six z (y - 3)) = natZ (-(x - 7)) + six z (y - 3) := IntWalk.i64_in _ (by omega)))))
    all_goals go_meet
    all_goals exact ⟨_, rfl, (LW.start (B := 100) hr4 ((hb13.alloc _).trans hb4) hr0 (by omega) (by omega)).mono (by omega) (by omega)⟩
  case rest =>
    obtain ⟨q, rfl, hL⟩ := hcut
    clear hr1 hb1 m1 m2 HM NB
    obtain ⟨_, _, hq0, hq1, ⟨f0, f1⟩, ⟨cx, cy, c0, c1⟩, ⟨g0, g1⟩, st, ha, hst, hha, d0, d1⟩ := id hL
    have m1 : IntKind.i64.wrap (-ha) = -ha := IntWalk.i64_in _ (by omega)
    go_upto_if 27 with fail
    go_cut [6] (fun s6 wx => s6 = .pointer (some ⟨q, 0, none⟩) ∧ LW w r q (P + 3) 100 wx)
    case first =>
      go_wp2_with fail
      · go_meet
        exact ⟨rfl, hL.set hr0 (by omega) 1 (-ha) (by omega)⟩
      · go_meet
        exact ⟨rfl, hL⟩
    case rest =>
      clear hL hq0 hq1 f0 f1 c0 c1 g0 g1 d0 d1 m1 hst hha
      obtain ⟨rfl, hL⟩ := hcut
      go_upto_if 34 with (go_at_call 49; refine (odd_any _ _ _ _ hL.1 (by omega) (by omega) (by omega)).mono ?_; rintro e w3 ⟨bo, rfl, hr1, hb1⟩; have hL := hL.picked hr1 hb1 hr0; clear hr1 hb1; obtain ⟨_, _, hq0, hq1, ⟨f0, f1⟩, ⟨cx, cy, c0, c1⟩, ⟨g0, g1⟩, st, ha, hst, hha, d0, d1⟩ := id hL)
      go_cut [6] (fun s6 wx => s6 = .pointer (some ⟨q, 0, none⟩) ∧ LW w r q (P + 6) 9223372036854775807 wx)
      case first =>
        go_wp2_with (first
          | (go_at_call 43; refine (pick_any _ _ _ _ hL.1 (by omega) (by omega) (by omega)).mono ?_; rintro e w3 ⟨x, x0, x1, rfl, hr1, hb1⟩; have hL := hL.picked hr1 hb1 hr0; clear hr1 hb1; obtain ⟨_, _, hq0, hq1, ⟨f0, f1⟩, ⟨cx, cy, c0, c1⟩, ⟨g0, g1⟩, st, ha, hst, hha, d0, d1⟩ := id hL)
          | (go_at_call 43; refine (pick_any _ _ _ _ (hL.alloc hr0 _).1 (by omega) (by omega) (by omega)).mono ?_; rintro e w3 ⟨x, x0, x1, rfl, hr1, hb1⟩; have hp := pair_at hb1 (Nat.lt_trans hr0 (Nat.lt_trans hL.2.2.1 hL.2.2.2.1)) x0 x1; have hL := (hL.alloc hr0 _).picked hr1 hb1 hr0; clear hr1 hb1; obtain ⟨_, _, hq0, hq1, ⟨f0, f1⟩, ⟨cx, cy, c0, c1⟩, ⟨g0, g1⟩, st, ha, hst, hha, d0, d1⟩ := id hL)
          | (go_at_call 43; refine (pick_any _ _ _ _ (hL.alloc hr0 _).1 (by omega) (by omega) (by omega)).mono ?_; rintro e w3 ⟨x, x0, x1, rfl, hr1, hb1⟩; have hp := tri_at hb1 (Nat.lt_trans hr0 (Nat.lt_trans hL.2.2.1 hL.2.2.2.1)) x0 x1; have hL := (hL.alloc hr0 _).picked hr1 hb1 hr0; clear hr1 hb1; obtain ⟨_, _, hq0, hq1, ⟨f0, f1⟩, ⟨cx, cy, c0, c1⟩, ⟨g0, g1⟩, st, ha, hst, hha, d0, d1⟩ := id hL))
        all_goals first
          | (go_meet; exact ⟨rfl, (hL.set hr0 (C := 9223372036854775807) (by omega) 0 (sel x (-22) 22) (by have := sel_or x (-22) 22; omega)).mono (by omega) (by omega)⟩)
          | (go_meet; exact ⟨rfl, (hL.set hr0 (C := 9223372036854775807) (by omega) 1 (tri x 61 (-61) 9223372036854775807) (by have := tri_bd x; omega)).mono (by omega) (by omega)⟩)
          | (go_meet; exact ⟨rfl, hL.mono (by omega) (by omega)⟩)
          | skip
        have hO := hL.own hr0 c0 c1 d0 d1
        have hR : Rd w3 r (P + 5 + 0) := hL.1.mono (by omega)
        have hF := True.intro
        clear hL c0 c1 d0 d1 f0 f1 g0 g1
        apply own_code hO
        (repeat (first | (with_reducible exact hO) | (with_reducible apply Own.alloc) | (with_reducible apply Own.drew) | ((with_reducible apply Own.set_at); (focus (show _ ≤ _; omega)))))
        have hG := hF; clear hF; clear hO; intro hO
        (try simp only [World.size_alloc1, World.size_drew, Nat.reduceAdd] at hO); (try simp only [upd, updI, List.map_cons, List.map_nil, eq_self, if_true, if_false, reduceIte, Nat.add_eq_left, Nat.left_eq_add, Nat.reduceEqDiff, List.set_cons_zero, List.set_cons_succ, hG] at hO); clear hG
        refine region_own (X := fun W => Rd W r (P + 5 + 0)) [9] (by kernel_rfl) (hO) (hR) (by first | exact XStab.true | exact XStab.rd | exact XStab.rdIf) ?_
        clear hO
        refine Sim.takeP (i := 0) (d := some 45) (v := ?_) rfl rfl (by kernel_rfl) (by kernel_rfl) (by kernel_rfl) (fun _ _ _ h => h) (by first | exact XStab.true | exact XStab.rd | exact XStab.rdIf) ?_ ?_
        rotate_left
        · first | refine Or.inl ⟨by rfl, fun w => ?_⟩ | (refine Or.inr ⟨by rfl, ?_⟩; with_reducible rfl)
          first | done | (go_simp; all_goals with_reducible rfl)
        try simp only [Act.put, List.setIfInBounds_toArray, List.set_cons_zero, List.set_cons_succ]
        refine Sim.take (i := 1) (d := some 46) (v := ?_) rfl rfl (by kernel_rfl) (by kernel_rfl) (by kernel_rfl) (by kernel_rfl) (fun _ _ _ h => h) (by first | exact XStab.true | exact XStab.rd | exact XStab.rdIf) ?_ ?_
        rotate_left
        · first | refine Or.inl ⟨by rfl, fun w hO => ?_⟩ | (refine Or.inr ⟨by rfl, ?_⟩; with_reducible rfl)
          first | done | (have hF := hO; (try simp only [Own, Item.Holds, apartI, CellsAt, Nat.reduceAdd, Nat.zero_add, List.mem_cons, List.not_mem_nil, or_false, forall_eq_or_imp, forall_eq, ne_eq, false_imp_iff, implies_true, and_true] at hF); (try have hsel := hO.sel_at (a := 9) (c := -9) (by first | exact List.mem_cons_self | exact List.mem_cons_of_mem _ List.mem_cons_self) (by assumption) (by assumption)); refine Out.same ?_; go_simp; all_goals with_reducible rfl)
        try simp only [Act.put, List.setIfInBounds_toArray, List.set_cons_zero, List.set_cons_succ]
        refine Sim.takeP (i := 3) (d := some 48) (v := ?_) rfl rfl (by kernel_rfl) (by kernel_rfl) (by kernel_rfl) (fun _ _ _ h => h) (by first | exact XStab.true | exact XStab.rd | exact XStab.rdIf) ?_ ?_
        rotate_left
        · first | refine Or.inl ⟨by rfl, fun w => ?_⟩ | (refine Or.inr ⟨by rfl, ?_⟩; with_reducible rfl)
          first | done | (go_simp; all_goals with_reducible rfl)
        try simp only [Act.put, List.setIfInBounds_toArray, List.set_cons_zero, List.set_cons_succ]
        refine Sim.many (rs := [2, 4]) (by kernel_rfl) (by decide) ?_
        refine AllS.cons (oi := { dst := some 47, op := Op.buildSlice 61 2 #[(0, Operand.const (Value.int IntKind.i64 9)), (1, Operand.const (Value.int IntKind.i64 (-9)))], type := 61, pos := "l20_draw.go:109", after := #[], guard := none }) rfl (by rfl) (fun w0 hO hX K hK => ?_) ?_
        rotate_left
        refine AllS.cons (oi := { dst := some 49, op := Op.call { callee := Callee.value (Operand.func 43), args := #[Operand.tmp 48, Operand.const (Value.int IntKind.i64 2)], argTypes := #[55, 3] }, type := 3, pos := "l20_draw.go:109", after := #[{ on := 3, ground := Ground.data }], guard := none }) rfl (by rfl) (fun w0 hO hX K hK => ?_) ?_
        rotate_left
        exact AllS.nil
        rotate_right 2
        have hF := hO; (try simp only [Own, Item.Holds, apartI, CellsAt, Nat.reduceAdd, Nat.zero_add, List.mem_cons, List.not_mem_nil, or_false, forall_eq_or_imp, forall_eq, ne_eq, false_imp_iff, implies_true, and_true] at hF)
        go_simp
        apply hK _ _ _ (fun W => Rd W r (P + 5 + 0))
        (repeat (first | (with_reducible exact hO) | (with_reducible apply Own.alloc) | (with_reducible apply Own.drew) | ((with_reducible apply Own.set_at); (focus (show _ ≤ _; omega)))))
        · first | exact trivial | exact hX | exact hX.below (below1 _) | exact RdIf.gone | exact hX.keep ((Below.refl _ _).setCell (by first | omega | (dsimp only; omega)) _)
        · exact (by first | exact XStab.true | exact XStab.rd | exact XStab.rdIf)
        · first | exact fun _ _ h => h.2 | exact fun _ _ h => h | exact fun h => absurd h (by decide)
        try simp only [upd, updI, List.map_cons, List.map_nil, eq_self, if_true, if_false, reduceIte, Nat.add_eq_left, Nat.left_eq_add, Nat.reduceEqDiff, List.set_cons_zero, List.set_cons_succ, hF]
        clear hK K hF hO
        try simp only [Act.put, List.setIfInBounds_toArray, List.set_cons_zero, List.set_cons_succ]
        refine Sim.one' (i := 4) (oi := { dst := some 49, op := Op.call { callee := Callee.value (Operand.func 43), args := #[Operand.tmp 48, Operand.const (Value.int IntKind.i64 2)], argTypes := #[55, 3] }, type := 3, pos := "l20_draw.go:109", after := #[{ on := 3, ground := Ground.data }], guard := none }) (by kernel_rfl) rfl (by rfl) (fun w0 hO hX K hK => ?_)
        have hF := hO; (try simp only [Own, Item.Holds, apartI, CellsAt, Nat.reduceAdd, Nat.zero_add, List.mem_cons, List.not_mem_nil, or_false, forall_eq_or_imp, forall_eq, ne_eq, false_imp_iff, implies_true, and_true] at hF)
        go_simp
        refine (pick_any r (P + 5 + 0) 2 _ hX (by omega) (by omega) (by omega)).mono ?_
        rintro e w4 ⟨x2, y0, y1, rfl, hR4, hB4⟩
        have m5 : IntKind.i64.wrap (ha + sel x2 9 (-9)) = ha + sel x2 9 (-9) := IntWalk.i64_in _ (by have := sel_or x2 9 (-9); omega)
        apply hK _ _ _ (fun W => Rd W r (P + 5 + 1))
        · exact Own.but hr0 (Stab.but hr0) (hO.base.trans hB4) hB4 hO
        · exact hR4.mono (by omega)
        · exact XStab.rd
        · exact fun _ _ h => h
        clear hR4 hB4
        clear hK K hF hO
        try simp only [Act.put, List.setIfInBounds_toArray, List.set_cons_zero, List.set_cons_succ]
        refine Sim.takeP (i := 5) (d := some 50) (v := ?_) rfl rfl (by kernel_rfl) (by kernel_rfl) (by kernel_rfl) (fun _ _ _ h => h) (by first | exact XStab.true | exact XStab.rd | exact XStab.rdIf) ?_ ?_
        rotate_left
        · first | refine Or.inl ⟨by rfl, fun w => ?_⟩ | (refine Or.inr ⟨by rfl, ?_⟩; with_reducible rfl)
          first | done | (go_simp; all_goals with_reducible rfl)
        try simp only [Act.put, List.setIfInBounds_toArray, List.set_cons_zero, List.set_cons_succ]
        refine Sim.take (i := 6) (d := some 51) (v := ?_) rfl rfl (by kernel_rfl) (by kernel_rfl) (by kernel_rfl) (by kernel_rfl) (fun _ _ _ h => h) (by first | exact XStab.true | exact XStab.rd | exact XStab.rdIf) ?_ ?_
        rotate_left
        · first | refine Or.inl ⟨by rfl, fun w hO => ?_⟩ | (refine Or.inr ⟨by rfl, ?_⟩; with_reducible rfl)
          first | done | (have hF := hO; (try simp only [Own, Item.Holds, apartI, CellsAt, Nat.reduceAdd, Nat.zero_add, List.mem_cons, List.not_mem_nil, or_false, forall_eq_or_imp, forall_eq, ne_eq, false_imp_iff, implies_true, and_true] at hF); (try have hsel := hO.sel_at (a := 9) (c := -9) (by first | exact List.mem_cons_self | exact List.mem_cons_of_mem _ List.mem_cons_self) (by assumption) (by assumption)); refine Out.same ?_; go_simp; all_goals with_reducible rfl)
        try simp only [Act.put, List.setIfInBounds_toArray, List.set_cons_zero, List.set_cons_succ]
        refine Sim.takeP (i := 7) (d := some 52) (v := ?_) rfl rfl (by kernel_rfl) (by kernel_rfl) (by kernel_rfl) (fun _ _ _ h => h) (by first | exact XStab.true | exact XStab.rd | exact XStab.rdIf) ?_ ?_
        rotate_left
        · first | refine Or.inl ⟨by rfl, fun w => ?_⟩ | (refine Or.inr ⟨by rfl, ?_⟩; with_reducible rfl)
          first | done | (go_simp; all_goals with_reducible rfl)
        try simp only [Act.put, List.setIfInBounds_toArray, List.set_cons_zero, List.set_cons_succ]
        refine Sim.takeP (i := 8) (d := some 53) (v := ?_) rfl rfl (by kernel_rfl) (by kernel_rfl) (by kernel_rfl) (fun _ _ _ h => h) (by first | exact XStab.true | exact XStab.rd | exact XStab.rdIf) ?_ ?_
        rotate_left
        · first | refine Or.inl ⟨by rfl, fun w => ?_⟩ | (refine Or.inr ⟨by rfl, ?_⟩; with_reducible rfl)
          first | done | (go_simp; all_goals with_reducible rfl)
        try simp only [Act.put, List.setIfInBounds_toArray, List.set_cons_zero, List.set_cons_succ]
        refine Sim.one' (i := 9) (oi := { dst := none, op := Op.store 3 (Operand.tmp 53) (Operand.tmp 52), type := 0, pos := "l20_draw.go:109", after := #[{ on := 8, ground := Ground.data }, { on := 7, ground := Ground.data }, { on := 4, ground := Ground.chain }, { on := 0, ground := Ground.phase }, { on := 1, ground := Ground.phase }, { on := 2, ground := Ground.phase }, { on := 3, ground := Ground.phase }, { on := 4, ground := Ground.phase }, { on := 5, ground := Ground.phase }, { on := 6, ground := Ground.phase }, { on := 7, ground := Ground.phase }], guard := none }) (by kernel_rfl) rfl (by rfl) (fun w0 hO hX K hK => ?_)
        have hF := hO; (try simp only [Own, Item.Holds, apartI, CellsAt, Nat.reduceAdd, Nat.zero_add, List.mem_cons, List.not_mem_nil, or_false, forall_eq_or_imp, forall_eq, ne_eq, false_imp_iff, implies_true, and_true] at hF); (try have hsel := hO.sel_at (a := 9) (c := -9) (by first | exact List.mem_cons_self | exact List.mem_cons_of_mem _ List.mem_cons_self) (by assumption) (by assumption))
        go_simp
        apply hK _ _ _ (fun W => Rd W r (P + 5 + 1))
        (repeat (first | (with_reducible exact hO) | (with_reducible apply Own.alloc) | (with_reducible apply Own.drew) | ((with_reducible apply Own.set_at); (focus (show _ ≤ _; omega)))))
        · first | exact trivial | exact hX | exact hX.below (below1 _) | exact RdIf.gone | exact hX.keep ((Below.refl _ _).setCell (by first | omega | (dsimp only; omega)) _)
        · exact (by first | exact XStab.true | exact XStab.rd | exact XStab.rdIf)
        · first | exact fun _ _ h => h.2 | exact fun _ _ h => h | exact fun h => absurd h (by decide)
        try simp only [upd, updI, List.map_cons, List.map_nil, eq_self, if_true, if_false, reduceIte, Nat.add_eq_left, Nat.left_eq_add, Nat.reduceEqDiff, List.set_cons_zero, List.set_cons_succ, hF]
        clear hK K hF hO
        try simp only [Act.put, List.setIfInBounds_toArray, List.set_cons_zero, List.set_cons_succ]
        refine Sim.done (by kernel_rfl) (fun w1 hO hX => ?_) _
        (try simp only [World.size_alloc1, World.size_drew, Nat.reduceAdd] at hO); (try simp only [upd, updI, List.map_cons, List.map_nil, eq_self, if_true, if_false, reduceIte, Nat.add_eq_left, Nat.left_eq_add, Nat.reduceEqDiff, List.set_cons_zero, List.set_cons_succ] at hO)
        have hF := hO; (try simp only [Own, Item.Holds, apartI, CellsAt, Nat.reduceAdd, Nat.zero_add, List.mem_cons, List.not_mem_nil, or_false, forall_eq_or_imp, forall_eq, ne_eq, false_imp_iff, implies_true, and_true] at hF)
        rotate_left 1
        have hF := hO; (try simp only [Own, Item.Holds, apartI, CellsAt, Nat.reduceAdd, Nat.zero_add, List.mem_cons, List.not_mem_nil, or_false, forall_eq_or_imp, forall_eq, ne_eq, false_imp_iff, implies_true, and_true] at hF)
        go_simp
        refine (pick_any r (P + 5 + 0) 2 _ hX (by omega) (by omega) (by omega)).mono ?_
        rintro e w4 ⟨x2, y0, y1, rfl, hR4, hB4⟩
        have m5 : IntKind.i64.wrap (ha + sel x2 9 (-9)) = ha + sel x2 9 (-9) := IntWalk.i64_in _ (by have := sel_or x2 9 (-9); omega)
        apply hK _ _ _ (fun W => Rd W r (P + 5 + 1))
        · exact Own.but hr0 (Stab.but hr0) (hO.base.trans hB4) hB4 hO
        · exact hR4.mono (by omega)
        · exact XStab.rd
        · exact fun _ _ h => h
        clear hR4 hB4
        clear hK K hF hO
        try simp only [Act.put, List.setIfInBounds_toArray, List.set_cons_zero, List.set_cons_succ]
        refine Sim.one' (i := 2) (oi := { dst := some 47, op := Op.buildSlice 61 2 #[(0, Operand.const (Value.int IntKind.i64 9)), (1, Operand.const (Value.int IntKind.i64 (-9)))], type := 61, pos := "l20_draw.go:109", after := #[], guard := none }) (by kernel_rfl) rfl (by rfl) (fun w0 hO hX K hK => ?_)
        have hF := hO; (try simp only [Own, Item.Holds, apartI, CellsAt, Nat.reduceAdd, Nat.zero_add, List.mem_cons, List.not_mem_nil, or_false, forall_eq_or_imp, forall_eq, ne_eq, false_imp_iff, implies_true, and_true] at hF)
        go_simp
        apply hK _ _ _ (fun W => Rd W r (P + 5 + 1))
        (repeat (first | (with_reducible exact hO) | (with_reducible apply Own.alloc) | (with_reducible apply Own.drew) | ((with_reducible apply Own.set_at); (focus (show _ ≤ _; omega)))))
        · first | exact trivial | exact hX | exact hX.below (below1 _) | exact RdIf.gone | exact hX.keep ((Below.refl _ _).setCell (by first | omega | (dsimp only; omega)) _)
        · exact (by first | exact XStab.true | exact XStab.rd | exact XStab.rdIf)
        · first | exact fun _ _ h => h.2 | exact fun _ _ h => h | exact fun h => absurd h (by decide)
        try simp only [upd, updI, List.map_cons, List.map_nil, eq_self, if_true, if_false, reduceIte, Nat.add_eq_left, Nat.left_eq_add, Nat.reduceEqDiff, List.set_cons_zero, List.set_cons_succ, hF]
        clear hK K hF hO
        try simp only [Act.put, List.setIfInBounds_toArray, List.set_cons_zero, List.set_cons_succ]
        refine Sim.takeP (i := 5) (d := some 50) (v := ?_) rfl rfl (by kernel_rfl) (by kernel_rfl) (by kernel_rfl) (fun _ _ _ h => h) (by first | exact XStab.true | exact XStab.rd | exact XStab.rdIf) ?_ ?_
        rotate_left
        · first | refine Or.inl ⟨by rfl, fun w => ?_⟩ | (refine Or.inr ⟨by rfl, ?_⟩; with_reducible rfl)
          first | done | (go_simp; all_goals with_reducible rfl)
        try simp only [Act.put, List.setIfInBounds_toArray, List.set_cons_zero, List.set_cons_succ]
        refine Sim.take (i := 6) (d := some 51) (v := ?_) rfl rfl (by kernel_rfl) (by kernel_rfl) (by kernel_rfl) (by kernel_rfl) (fun _ _ _ h => h) (by first | exact XStab.true | exact XStab.rd | exact XStab.rdIf) ?_ ?_
        rotate_left
        · first | refine Or.inl ⟨by rfl, fun w hO => ?_⟩ | (refine Or.inr ⟨by rfl, ?_⟩; with_reducible rfl)
          first | done | (have hF := hO; (try simp only [Own, Item.Holds, apartI, CellsAt, Nat.reduceAdd, Nat.zero_add, List.mem_cons, List.not_mem_nil, or_false, forall_eq_or_imp, forall_eq, ne_eq, false_imp_iff, implies_true, and_true] at hF); (try have hsel := hO.sel_at (a := 9) (c := -9) (by first | exact List.mem_cons_self | exact List.mem_cons_of_mem _ List.mem_cons_self) (by assumption) (by assumption)); refine Out.same ?_; go_simp; all_goals with_reducible rfl)
        try simp only [Act.put, List.setIfInBounds_toArray, List.set_cons_zero, List.set_cons_succ]
        refine Sim.takeP (i := 7) (d := some 52) (v := ?_) rfl rfl (by kernel_rfl) (by kernel_rfl) (by kernel_rfl) (fun _ _ _ h => h) (by first | exact XStab.true | exact XStab.rd | exact XStab.rdIf) ?_ ?_
        rotate_left
        · first | refine Or.inl ⟨by rfl, fun w => ?_⟩ | (refine Or.inr ⟨by rfl, ?_⟩; with_reducible rfl)
          first | done | (go_simp; all_goals with_reducible rfl)
        try simp only [Act.put, List.setIfInBounds_toArray, List.set_cons_zero, List.set_cons_succ]
        refine Sim.takeP (i := 8) (d := some 53) (v := ?_) rfl rfl (by kernel_rfl) (by kernel_rfl) (by kernel_rfl) (fun _ _ _ h => h) (by first | exact XStab.true | exact XStab.rd | exact XStab.rdIf) ?_ ?_
        rotate_left
        · first | refine Or.inl ⟨by rfl, fun w => ?_⟩ | (refine Or.inr ⟨by rfl, ?_⟩; with_reducible rfl)
          first | done | (go_simp; all_goals with_reducible rfl)
        try simp only [Act.put, List.setIfInBounds_toArray, List.set_cons_zero, List.set_cons_succ]
        refine Sim.one' (i := 9) (oi := { dst := none, op := Op.store 3 (Operand.tmp 53) (Operand.tmp 52), type := 0, pos := "l20_draw.go:109", after := #[{ on := 8, ground := Ground.data }, { on := 7, ground := Ground.data }, { on := 4, ground := Ground.chain }, { on := 0, ground := Ground.phase }, { on := 1, ground := Ground.phase }, { on := 2, ground := Ground.phase }, { on := 3, ground := Ground.phase }, { on := 4, ground := Ground.phase }, { on := 5, ground := Ground.phase }, { on := 6, ground := Ground.phase }, { on := 7, ground := Ground.phase }], guard := none }) (by kernel_rfl) rfl (by rfl) (fun w0 hO hX K hK => ?_)
        have hF := hO; (try simp only [Own, Item.Holds, apartI, CellsAt, Nat.reduceAdd, Nat.zero_add, List.mem_cons, List.not_mem_nil, or_false, forall_eq_or_imp, forall_eq, ne_eq, false_imp_iff, implies_true, and_true] at hF); (try have hsel := hO.sel_at (a := 9) (c := -9) (by first | exact List.mem_cons_self | exact List.mem_cons_of_mem _ List.mem_cons_self) (by assumption) (by assumption))
        go_simp
        apply hK _ _ _ (fun W => Rd W r (P + 5 + 1))
        (repeat (first | (with_reducible exact hO) | (with_reducible apply Own.alloc) | (with_reducible apply Own.drew) | ((with_reducible apply Own.set_at); (focus (show _ ≤ _; omega)))))
        · first | exact trivial | exact hX | exact hX.below (below1 _) | exact RdIf.gone | exact hX.keep ((Below.refl _ _).setCell (by first | omega | (dsimp only; omega)) _)
        · exact (by first | exact XStab.true | exact XStab.rd | exact XStab.rdIf)
        · first | exact fun _ _ h => h.2 | exact fun _ _ h => h | exact fun h => absurd h (by decide)
        try simp only [upd, updI, List.map_cons, List.map_nil, eq_self, if_true, if_false, reduceIte, Nat.add_eq_left, Nat.left_eq_add, Nat.reduceEqDiff, List.set_cons_zero, List.set_cons_succ, hF]
        clear hK K hF hO
        try simp only [Act.put, List.setIfInBounds_toArray, List.set_cons_zero, List.set_cons_succ]
        refine Sim.done (by kernel_rfl) (fun w1 hO hX => ?_) _
        (try simp only [World.size_alloc1, World.size_drew, Nat.reduceAdd] at hO); (try simp only [upd, updI, List.map_cons, List.map_nil, eq_self, if_true, if_false, reduceIte, Nat.add_eq_left, Nat.left_eq_add, Nat.reduceEqDiff, List.set_cons_zero, List.set_cons_succ] at hO)
        have hF := hO; (try simp only [Own, Item.Holds, apartI, CellsAt, Nat.reduceAdd, Nat.zero_add, List.mem_cons, List.not_mem_nil, or_false, forall_eq_or_imp, forall_eq, ne_eq, false_imp_iff, implies_true, and_true] at hF)
        rotate_left 1
        all_goals (go_wp2_with fail; go_meet)
        all_goals exact ⟨rfl, LW.of_own (st := st) (ha := ha + sel x2 9 (-9)) (cx := cx) (cy := cy) hO (hX.mono (by omega)) (by simp) (by simp) (by omega) (by omega) (by have := sel_or x2 9 (-9); omega)⟩
      case rest =>
        clear hL
        obtain ⟨rfl, hL⟩ := hcut
        obtain ⟨_, _, hq0, hq1, ⟨f0, f1⟩, ⟨cx, cy, c0, c1⟩, ⟨g0, g1⟩, st, ha, hst, hha, d0, d1⟩ := id hL
        go_wp2
        refine bodyPost_ret (v := .agg #[.int .i64 st, .int .i64 ha]) (by simp [results, Tryd.results59, go_sem, c0, c1]) rfl ⟨st, ha, hst, hha, rfl, ?_⟩
        exact hL.done hr0 (by omega) _ _
end Go.Proofs.YtcmhfjpofkgjbaaDoor
