/- l20Open and l20Pitch: a reader is opened; a pitch is drawn, its numbers in range. -/
import Derived.Test.YtcmhfjpofkgjbaaDoorWalksPick
import Derived.Deep.CutRange
import Derived.Deep.DeepCutAuto
namespace Go.Proofs.YtcmhfjpofkgjbaaDoor
set_option linter.unusedSimpArgs false
set_option linter.unusedVariables false
set_option maxRecDepth 8000
open Go.RowKit

/-- What opening leaves. -/
def Opened (w : World) (e : Ending) (w' : World) : Prop := ∃ r : Nat, w.heap.size ≤ r ∧ e = .returned (.pointer (some ⟨r, 0, none⟩)) ∧ Rd w' r 0 ∧ Below w.heap.size w w'

theorem Opened.mk {w : World} {v : Value} {n : Nat} {t : TypeId} (hn : n ≤ 2000) (h : BytesB w w.heap.size v n) : Opened w (.returned (.pointer (some ⟨w.heap.size, 0, none⟩))) (w.alloc (.cells #[v, .int .i64 0] t)) := by
  refine ⟨w.heap.size, Nat.le_refl _, rfl, ⟨v, n, 0, hn, by omega, by omega, by simp, by simp, by simp, World.frozen?_alloc_at _ _ _ _ (by simp), ?_⟩, below1 _⟩
  exact h.keep (by simp) fun k hk => Below.heap_alloc _ _ _ hk

set_option maxHeartbeats 1000000 in
theorem open_any (v : Value) (n : Nat) (w : World) (hn : n ≤ maxLen) (h : BytesB w w.heap.size v n) :
    Calls Tryd.prog 31 #[v] w (Opened w) := by
  unfold maxLen at hn
  rcases h with ⟨rfl, a, c, rfl⟩ | ⟨g0, b, off, cap, g1, g2, rfl, g3, g4, g5⟩
  · go_enter Tryd.func31, Tryd.ntmps31
    go_wp2
    go_ret
    exact Opened.mk (n := 0) (by omega) (Or.inl ⟨rfl, _, _, rfl⟩)
  · by_cases hl : n ≤ 2000
    · have HB := hid (Or.inr ⟨g0, b, off, cap, g1, g2, rfl, g3, g4, g5⟩ : BytesB w w.heap.size (.slice (some ⟨b, off, none⟩) n cap) n)
      clear g5
      unfold maxLen at g2
      have hl' : (n : Int) ≤ 2000 := by omega
      go_enter Tryd.func31, Tryd.ntmps31
      go_wp2
      go_ret
      exact Opened.mk hl HB.out
    · have HB := hid (Or.inr ⟨by omega, b, off, cap, by omega, g2, rfl, g3, g4, fun i hi => g5 i (by omega)⟩ : BytesB w w.heap.size (.slice (some ⟨b, off, none⟩) 2000 cap) 2000)
      clear g5
      unfold maxLen at g2
      have hl' : 2000 < (n : Int) := by omega
      have hc2 : 2000 ≤ cap := by omega
      go_enter Tryd.func31, Tryd.ntmps31
      go_wp2
      go_ret
      exact Opened.mk (by omega) HB.out

/-- A pitch in a block of its own, in range; and what of the call's memory is known beside it. -/
def LP (w0 : World) (r q : Nat) (P : Int) (W : World) : Prop :=
  Rd W r P ∧ ButR r w0 W ∧ w0.heap.size < q ∧ q < W.heap.size ∧ (W.frozen? ⟨w0.heap.size, 0, none⟩ = false ∧ W.frozen? ⟨w0.heap.size, 1, none⟩ = false ∧ W.frozen? ⟨w0.heap.size, 2, none⟩ = false) ∧
  (∃ x y z, W.cell? ⟨w0.heap.size, 0, none⟩ = some x ∧ W.cell? ⟨w0.heap.size, 1, none⟩ = some y ∧ W.cell? ⟨w0.heap.size, 2, none⟩ = some z) ∧
  (W.frozen? ⟨q, 0, none⟩ = false ∧ W.frozen? ⟨q, 1, none⟩ = false ∧ W.frozen? ⟨q, 2, none⟩ = false) ∧
  ∃ s a o : Int, (-1 ≤ s ∧ s ≤ 7) ∧ (-3 ≤ a ∧ a ≤ 3) ∧ (-1 ≤ o ∧ o ≤ 9) ∧ W.cell? ⟨q, 0, none⟩ = some (.int .i64 s) ∧ W.cell? ⟨q, 1, none⟩ = some (.int .i64 a) ∧ W.cell? ⟨q, 2, none⟩ = some (.int .i64 o)

theorem LP.picked {w0 W W' : World} {r q : Nat} {P Q : Int} (h : LP w0 r q P W) (hr : Rd W' r Q) (hb : ButR r W W') (hr0 : r < w0.heap.size) : LP w0 r q Q W' := by
  obtain ⟨h1, h2, h3, h4, ⟨f0, f1, f2⟩, ⟨x, y, z, c0, c1, c2⟩, ⟨g0, g1, g2⟩, s, a, o, hs, ha, ho, d0, d1, d2⟩ := h
  obtain ⟨hc, hf⟩ := hb.cells
  have n0 : w0.heap.size < W.heap.size := by omega
  refine ⟨hr, h2.trans hb, h3, by have := hb.size; omega, ⟨?_, ?_, ?_⟩, ⟨x, y, z, ?_, ?_, ?_⟩, ⟨?_, ?_, ?_⟩, s, a, o, hs, ha, ho, ?_, ?_, ?_⟩
  · rw [hf _ _ n0 (by omega), f0]
  · rw [hf _ _ n0 (by omega), f1]
  · rw [hf _ _ n0 (by omega), f2]
  · rw [hc _ _ n0 (by omega), c0]
  · rw [hc _ _ n0 (by omega), c1]
  · rw [hc _ _ n0 (by omega), c2]
  · rw [hf _ _ h4 (by omega), g0]
  · rw [hf _ _ h4 (by omega), g1]
  · rw [hf _ _ h4 (by omega), g2]
  · rw [hc _ _ h4 (by omega), d0]
  · rw [hc _ _ h4 (by omega), d1]
  · rw [hc _ _ h4 (by omega), d2]

theorem LP.alloc {w0 W : World} {r q : Nat} {P : Int} (h : LP w0 r q P W) (hr0 : r < w0.heap.size) (o : Obj) : LP w0 r q P (W.alloc o) :=
  h.picked (h.1.below (below1 o)) (.of_below (below1 o)) hr0

/-- One of the pitch's numbers is set anew. -/
theorem LP.set {w0 W : World} {r q : Nat} {P : Int} (h : LP w0 r q P W) (hr0 : r < w0.heap.size) (i : Nat) (x : Int) (hi : (i = 0 ∧ -1 ≤ x ∧ x ≤ 7) ∨ (i = 1 ∧ -3 ≤ x ∧ x ≤ 3) ∨ (i = 2 ∧ -1 ≤ x ∧ x ≤ 9)) :
    LP w0 r q P (W.setCell ⟨q, i, none⟩ (.int .i64 x)) := by
  obtain ⟨h1, h2, h3, h4, ⟨f0, f1, f2⟩, ⟨u, y, z, c0, c1, c2⟩, ⟨g0, g1, g2⟩, s, a, o, hs, ha, ho, d0, d1, d2⟩ := h
  have hR : Rd (W.setCell ⟨q, i, none⟩ (.int .i64 x)) r P := h1.keep ((Below.refl _ _).setCell (by show r + 1 ≤ q; omega) _)
  refine ⟨hR, h2.setCell (Or.inl (by show w0.heap.size ≤ q; omega)) _, h3, by simpa using h4, ⟨?_, ?_, ?_⟩, ⟨u, y, z, ?_, ?_, ?_⟩, ⟨?_, ?_, ?_⟩, ?_⟩
  · simpa using f0
  · simpa using f1
  · simpa using f2
  · rw [World.cell?_setCell_other W ⟨q, i, none⟩ _ _ (fun e => by have e2 := congrArg Addr.block e; simp at e2; omega), c0]
  · rw [World.cell?_setCell_other W ⟨q, i, none⟩ _ _ (fun e => by have e2 := congrArg Addr.block e; simp at e2; omega), c1]
  · rw [World.cell?_setCell_other W ⟨q, i, none⟩ _ _ (fun e => by have e2 := congrArg Addr.block e; simp at e2; omega), c2]
  · simpa using g0
  · simpa using g1
  · simpa using g2
  · rcases hi with ⟨rfl, b0, b1⟩ | ⟨rfl, b0, b1⟩ | ⟨rfl, b0, b1⟩
    · exact ⟨x, a, o, ⟨b0, b1⟩, ha, ho, World.cell?_setCell_same _ _ _ d0, by rw [World.cell?_setCell_other W ⟨q, 0, none⟩ _ _ (by simp), d1], by rw [World.cell?_setCell_other W ⟨q, 0, none⟩ _ _ (by simp), d2]⟩
    · exact ⟨s, x, o, hs, ⟨b0, b1⟩, ho, by rw [World.cell?_setCell_other W ⟨q, 1, none⟩ _ _ (by simp), d0], World.cell?_setCell_same _ _ _ d1, by rw [World.cell?_setCell_other W ⟨q, 1, none⟩ _ _ (by simp), d2]⟩
    · exact ⟨s, a, x, hs, ha, ⟨b0, b1⟩, by rw [World.cell?_setCell_other W ⟨q, 2, none⟩ _ _ (by simp), d0], by rw [World.cell?_setCell_other W ⟨q, 2, none⟩ _ _ (by simp), d1], World.cell?_setCell_same _ _ _ d2⟩

/-- The pitch's block is laid behind two picks. -/
theorem LP.start {w0 W : World} {r : Nat} {P s o : Int} {t t' : TypeId} (hr : Rd W r P) (hb : ButR r (w0.alloc (.cells #[.int .i64 0, .int .i64 0, .int .i64 0] t)) W) (hr0 : r < w0.heap.size) (hs : -1 ≤ s ∧ s ≤ 7) (ho : -1 ≤ o ∧ o ≤ 9) :
    LP w0 r W.heap.size P (W.alloc (.cells #[.int .i64 s, .int .i64 0, .int .i64 o] t')) := by
  have hz := hb.size
  simp at hz
  obtain ⟨hc, hf⟩ := hb.cells
  have n0 : w0.heap.size < (w0.alloc (.cells #[.int .i64 0, .int .i64 0, .int .i64 0] t)).heap.size := by simp
  refine ⟨hr.below (below1 _), (((ButR.refl r w0).alloc _).trans hb).alloc _, by omega, by simp, ⟨?_, ?_, ?_⟩, ⟨.int .i64 0, .int .i64 0, .int .i64 0, ?_, ?_, ?_⟩, ⟨World.frozen?_alloc_at _ _ _ _ rfl, World.frozen?_alloc_at _ _ _ _ rfl, World.frozen?_alloc_at _ _ _ _ rfl⟩, s, 0, o, hs, by omega, ho, by simp, by simp, by simp⟩
  · rw [((Below.refl W.heap.size W).alloc (Nat.le_refl _) _).frozen (p := ⟨w0.heap.size, 0, none⟩) (by show w0.heap.size < _; omega), hf _ _ n0 (by omega)]; exact World.frozen?_alloc_at _ _ _ _ rfl
  · rw [((Below.refl W.heap.size W).alloc (Nat.le_refl _) _).frozen (p := ⟨w0.heap.size, 1, none⟩) (by show w0.heap.size < _; omega), hf _ _ n0 (by omega)]; exact World.frozen?_alloc_at _ _ _ _ rfl
  · rw [((Below.refl W.heap.size W).alloc (Nat.le_refl _) _).frozen (p := ⟨w0.heap.size, 2, none⟩) (by show w0.heap.size < _; omega), hf _ _ n0 (by omega)]; exact World.frozen?_alloc_at _ _ _ _ rfl
  · rw [World.cell?_alloc_lt W _ _ (by show w0.heap.size < _; omega), hc _ _ n0 (by omega)]; simp
  · rw [World.cell?_alloc_lt W _ _ (by show w0.heap.size < _; omega), hc _ _ n0 (by omega)]; simp
  · rw [World.cell?_alloc_lt W _ _ (by show w0.heap.size < _; omega), hc _ _ n0 (by omega)]; simp

/-- One of two, by a number. -/
def sel (x a b : Int) : Int := if x = 0 then a else b
theorem sel_or (x a b : Int) : sel x a b = a ∨ sel x a b = b := by unfold sel; split <;> simp
theorem pair_at {W W' : World} {r : Nat} {a b x : Int} {t : TypeId} (hb : ButR r (W.alloc (.cells #[.int .i64 a, .int .i64 b] t)) W') (hr : r < W.heap.size) (x0 : 0 ≤ x) (x1 : x < 2) :
    W'.cell? ⟨W.heap.size, x.toNat, none⟩ = some (.int .i64 (sel x a b)) := by
  obtain ⟨hc, _⟩ := hb.cells
  rw [hc _ _ (by simp) (by omega)]
  rcases (show x = 0 ∨ x = 1 by omega) with rfl | rfl <;> simp [sel]

theorem LP.mono {w0 W : World} {r q : Nat} {P Q : Int} (h : LP w0 r q P W) (hq : P ≤ Q) : LP w0 r q Q W := ⟨h.1.mono hq, h.2⟩

theorem LP.done {w0 W : World} {r q : Nat} {P Q : Int} (h : LP w0 r q P W) (hr0 : r < w0.heap.size) (hq : P ≤ Q) (x y z : Value) :
    Rd (((W.setCell ⟨w0.heap.size, 0, none⟩ x).setCell ⟨w0.heap.size, 1, none⟩ y).setCell ⟨w0.heap.size, 2, none⟩ z) r Q ∧ ButR r w0 (((W.setCell ⟨w0.heap.size, 0, none⟩ x).setCell ⟨w0.heap.size, 1, none⟩ y).setCell ⟨w0.heap.size, 2, none⟩ z) :=
  ⟨(h.1.keep ((((Below.refl _ _).setCell (by show r + 1 ≤ w0.heap.size; omega) _).setCell (by show r + 1 ≤ w0.heap.size; omega) _).setCell (by show r + 1 ≤ w0.heap.size; omega) _)).mono hq,
   ((h.2.1.setCell (Or.inl (Nat.le_refl _)) _).setCell (Or.inl (Nat.le_refl _)) _).setCell (Or.inl (Nat.le_refl _)) _⟩

/-- What drawing a pitch leaves. -/
def Drew (r : Nat) (P : Int) (w : World) (e : Ending) (w' : World) : Prop :=
  ∃ s a o : Int, (-1 ≤ s ∧ s ≤ 7) ∧ (-3 ≤ a ∧ a ≤ 3) ∧ (-1 ≤ o ∧ o ≤ 9) ∧ e = .returned (.agg #[.int .i64 s, .int .i64 a, .int .i64 o]) ∧ Rd w' r (P + 20) ∧ ButR r w w'

set_option maxHeartbeats 4000000 in
theorem l20Pitch_any (r : Nat) (P n : Int) (w : World) (h : Rd w r P) (hP : P ≤ 900000) (n0 : 0 ≤ n) (n1 : n ≤ 1000000) :
    Calls Tryd.prog 55 #[.pointer (some ⟨r, 0, none⟩), .int .i64 n] w (Drew r P w) := by
  have hr0 := h.lt
  go_enter Tryd.func55, Tryd.ntmps55
  go_wp2_with fail
  refine (pick_any r P 7 _ (h.below (below1 _)) (by omega) (by omega) (by omega)).mono ?_
  rintro e w1 ⟨x, x0, x1, rfl, hr1, hb1⟩
  go_wp2_with fail
  refine (pick_any r (P + 1) 4 _ hr1 (by omega) (by omega) (by omega)).mono ?_
  rintro e w2 ⟨y, y0, y1, rfl, hr2, hb2⟩
  have hL := LP.start (s := x) (o := 2 + y) (t' := 29) hr2 (hb1.trans hb2) hr0 (by omega) (by omega)
  clear hr1 hr2 hb1 hb2
  go_upto_if 14 with (go_at_call 43; refine (pick_any _ _ _ _ hL.1 (by omega) (by omega) (by omega)).mono ?_; rintro e w3 ⟨x, x0, x1, rfl, hr1, hb1⟩; have hL := hL.picked hr1 hb1 hr0; clear hr1 hb1; obtain ⟨_, _, hq0, hq1, ⟨f0, f1, f2⟩, ⟨cx, cy, cz, c0, c1, c2⟩, ⟨g0, g1, g2⟩, s, a, o, hs, ha, ho, d0, d1, d2⟩ := id hL)
  go_cut [5] (fun s5 wx => s5 = .pointer (some ⟨w2.heap.size, 0, none⟩) ∧ LP w r w2.heap.size (P + 4) wx)
  case first =>
    go_wp2_with (go_at_call 43; refine (pick_any _ _ _ _ hL.1 (by omega) (by omega) (by omega)).mono ?_; rintro e w3 ⟨x, x0, x1, rfl, hr1, hb1⟩; have hL := hL.picked hr1 hb1 hr0; clear hr1 hb1; obtain ⟨_, _, hq0, hq1, ⟨f0, f1, f2⟩, ⟨cx, cy, cz, c0, c1, c2⟩, ⟨g0, g1, g2⟩, s, a, o, hs, ha, ho, d0, d1, d2⟩ := id hL)
    · go_meet
      exact ⟨rfl, (hL.set hr0 1 (x - 1) (by omega)).mono (by omega)⟩
    · go_meet
      exact ⟨rfl, hL.mono (by omega)⟩
  case rest =>
    clear hL
    obtain ⟨rfl, hL⟩ := hcut
    go_upto_if 21 with (go_at_call 43; refine (pick_any _ _ _ _ hL.1 (by omega) (by omega) (by omega)).mono ?_; rintro e w3 ⟨x, x0, x1, rfl, hr1, hb1⟩; have hL := hL.picked hr1 hb1 hr0; clear hr1 hb1; obtain ⟨_, _, hq0, hq1, ⟨f0, f1, f2⟩, ⟨cx, cy, cz, c0, c1, c2⟩, ⟨g0, g1, g2⟩, s, a, o, hs, ha, ho, d0, d1, d2⟩ := id hL)
    go_cut [5] (fun s5 wx => s5 = .pointer (some ⟨w2.heap.size, 0, none⟩) ∧ LP w r w2.heap.size (P + 6) wx)
    case first =>
      go_wp2_with (go_at_call 43; refine (pick_any _ _ _ _ (hL.alloc hr0 _).1 (by omega) (by omega) (by omega)).mono ?_; rintro e w3 ⟨x, x0, x1, rfl, hr1, hb1⟩; have hp := pair_at hb1 (Nat.lt_trans hr0 (Nat.lt_trans hL.2.2.1 hL.2.2.2.1)) x0 x1; have hL := (hL.alloc hr0 _).picked hr1 hb1 hr0; clear hr1 hb1; obtain ⟨_, _, hq0, hq1, ⟨f0, f1, f2⟩, ⟨cx, cy, cz, c0, c1, c2⟩, ⟨g0, g1, g2⟩, s, a, o, hs, ha, ho, d0, d1, d2⟩ := id hL)
      · go_meet
        exact ⟨rfl, (hL.set hr0 1 (sel x 2 (-2)) (by have := sel_or x 2 (-2); omega)).mono (by omega)⟩
      · go_meet
        exact ⟨rfl, hL.mono (by omega)⟩
    case rest =>
      clear hL
      obtain ⟨rfl, hL⟩ := hcut
      go_upto_if 30 with (go_at_call 43; refine (pick_any _ _ _ _ hL.1 (by omega) (by omega) (by omega)).mono ?_; rintro e w3 ⟨x, x0, x1, rfl, hr1, hb1⟩; have hL := hL.picked hr1 hb1 hr0; clear hr1 hb1; obtain ⟨_, _, hq0, hq1, ⟨f0, f1, f2⟩, ⟨cx, cy, cz, c0, c1, c2⟩, ⟨g0, g1, g2⟩, s, a, o, hs, ha, ho, d0, d1, d2⟩ := id hL)
      go_cut [5] (fun s5 wx => s5 = .pointer (some ⟨w2.heap.size, 0, none⟩) ∧ LP w r w2.heap.size (P + 8) wx)
      case first =>
        go_wp2_with (go_at_call 43; refine (pick_any _ _ _ _ (hL.alloc hr0 _).1 (by omega) (by omega) (by omega)).mono ?_; rintro e w3 ⟨x, x0, x1, rfl, hr1, hb1⟩; have hp := pair_at hb1 (Nat.lt_trans hr0 (Nat.lt_trans hL.2.2.1 hL.2.2.2.1)) x0 x1; have hL := (hL.alloc hr0 _).picked hr1 hb1 hr0; clear hr1 hb1; obtain ⟨_, _, hq0, hq1, ⟨f0, f1, f2⟩, ⟨cx, cy, cz, c0, c1, c2⟩, ⟨g0, g1, g2⟩, s, a, o, hs, ha, ho, d0, d1, d2⟩ := id hL)
        · go_meet
          exact ⟨rfl, (hL.set hr0 2 (sel x 0 8) (by have := sel_or x 0 8; omega)).mono (by omega)⟩
        · go_meet
          exact ⟨rfl, hL.mono (by omega)⟩
      case rest =>
        clear hL
        obtain ⟨rfl, hL⟩ := hcut
        go_upto_if 39 with (go_at_call 49; refine (odd_any _ _ _ _ hL.1 (by omega) (by omega) (by omega)).mono ?_; rintro e w3 ⟨bo, rfl, hr1, hb1⟩; have hL := hL.picked hr1 hb1 hr0; clear hr1 hb1; obtain ⟨_, _, hq0, hq1, ⟨f0, f1, f2⟩, ⟨cx, cy, cz, c0, c1, c2⟩, ⟨g0, g1, g2⟩, s, a, o, hs, ha, ho, d0, d1, d2⟩ := id hL)
        go_cut [5] (fun s5 wx => s5 = .pointer (some ⟨w2.heap.size, 0, none⟩) ∧ LP w r w2.heap.size (P + 12) wx)
        case first =>
          go_wp2_with (first | (go_at_call 43; refine (pick_any _ _ _ _ hL.1 (by omega) (by omega) (by omega)).mono ?_; rintro e w3 ⟨x, x0, x1, rfl, hr1, hb1⟩; have hL := hL.picked hr1 hb1 hr0; clear hr1 hb1; obtain ⟨_, _, hq0, hq1, ⟨f0, f1, f2⟩, ⟨cx, cy, cz, c0, c1, c2⟩, ⟨g0, g1, g2⟩, s, a, o, hs, ha, ho, d0, d1, d2⟩ := id hL) | (go_at_call 43; refine (pick_any _ _ _ _ (hL.alloc hr0 _).1 (by omega) (by omega) (by omega)).mono ?_; rintro e w3 ⟨x, x0, x1, rfl, hr1, hb1⟩; have hp := pair_at hb1 (Nat.lt_trans hr0 (Nat.lt_trans hL.2.2.1 hL.2.2.2.1)) x0 x1; have hL := (hL.alloc hr0 _).picked hr1 hb1 hr0; clear hr1 hb1; obtain ⟨_, _, hq0, hq1, ⟨f0, f1, f2⟩, ⟨cx, cy, cz, c0, c1, c2⟩, ⟨g0, g1, g2⟩, s, a, o, hs, ha, ho, d0, d1, d2⟩ := id hL))
          · go_meet
            exact ⟨rfl, (hL.set hr0 0 (sel x (-1) 7) (by have := sel_or x (-1) 7; omega)).mono (by omega)⟩
          · go_meet
            exact ⟨rfl, (hL.set hr0 1 (sel x (-3) 3) (by have := sel_or x (-3) 3; omega)).mono (by omega)⟩
          · go_meet
            exact ⟨rfl, (hL.set hr0 2 (sel x (-1) 9) (by have := sel_or x (-1) 9; omega)).mono (by omega)⟩
          · go_meet
            exact ⟨rfl, hL.mono (by omega)⟩
        case rest =>
          clear hL
          obtain ⟨rfl, hL⟩ := hcut
          obtain ⟨_, _, hq0, hq1, ⟨f0, f1, f2⟩, ⟨cx, cy, cz, c0, c1, c2⟩, ⟨g0, g1, g2⟩, s, a, o, hs, ha, ho, d0, d1, d2⟩ := id hL
          go_wp2
          refine bodyPost_ret (v := .agg #[.int .i64 s, .int .i64 a, .int .i64 o]) (by simp [results, Tryd.results55, go_sem, c0, c1, c2]) rfl ⟨s, a, o, hs, ha, ho, rfl, ?_⟩
          exact hL.done hr0 (by omega) _ _ _
end Go.Proofs.YtcmhfjpofkgjbaaDoor
