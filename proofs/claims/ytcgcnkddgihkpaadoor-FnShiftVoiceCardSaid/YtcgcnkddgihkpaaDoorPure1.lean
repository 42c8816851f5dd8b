/- Plain facts for chapter 1: pitches as triples of integers; small lemmas on worlds. -/
import Derived.WalkKit
namespace Go.Proofs.YtcgcnkddgihkpaaDoor
set_option linter.unusedSimpArgs false
set_option linter.unusedVariables false
set_option maxRecDepth 8000
open Go.RowKit
/-- n is in lo..hi. -/
def inB (n lo hi : Int) : Bool := decide (lo ≤ n) && decide (n ≤ hi)
/-- the pitch is valid. -/
def pvB (s a o : Int) : Bool := inB s 0 6 && inB a (-2) 2 && inB o 0 8
theorem inB_iff {n lo hi : Int} : inB n lo hi = true ↔ lo ≤ n ∧ n ≤ hi := by unfold inB; simp
theorem inB_no {n lo hi : Int} : inB n lo hi = false ↔ n < lo ∨ hi < n := by
  rw [← Bool.not_eq_true, inB_iff]; omega
theorem pvB_iff {s a o : Int} : pvB s a o = true ↔ (0 ≤ s ∧ s ≤ 6) ∧ (-2 ≤ a ∧ a ≤ 2) ∧ (0 ≤ o ∧ o ≤ 8) := by
  unfold pvB; simp [inB_iff, and_assoc]
theorem bcell {W w1 : World} (hb : Below W.heap.size W w1) : (∀ b o, b < W.heap.size → w1.cell? ⟨b, o, none⟩ = W.cell? ⟨b, o, none⟩) ∧ (∀ b o, b < W.heap.size → w1.frozen? ⟨b, o, none⟩ = W.frozen? ⟨b, o, none⟩) :=
  ⟨fun b o h => hb.cell (p := ⟨b, o, none⟩) h, fun b o h => hb.frozen (p := ⟨b, o, none⟩) h⟩
theorem btr {W0 W w1 : World} (h : Below W0.heap.size W0 W) (hb : Below W.heap.size W w1) : Below W0.heap.size W0 w1 := h.trans (hb.mono h.size)
theorem hid {p : Prop} (h : p) : Hid p := h
theorem World.size_alloc1 (w : World) (o : Obj) : (w.alloc o).heap.size = w.heap.size + 1 := by simp
theorem size_below {W w1 : World} {o : Obj} (hb : Below (W.alloc o).heap.size (W.alloc o) w1) : W.heap.size < w1.heap.size := by have := hb.size; simp at this; omega
theorem ret_bool {a b : Bool} (h : a = b) : Ending.returned (.bool a) = .returned (.bool b) := by rw [h]
theorem ret_int {k : IntKind} {a b : Int} (h : a = b) : Ending.returned (.int k a) = .returned (.int k b) := by rw [h]
theorem below1 {w : World} (o : Obj) : Below w.heap.size w (w.alloc o) := (Below.refl _ _).alloc (Nat.le_refl _) _
theorem below2 {w : World} (o p : Obj) : Below w.heap.size w ((w.alloc o).alloc p) := (below1 o).alloc (by simp) _
theorem below3 {w : World} (o p q : Obj) : Below w.heap.size w (((w.alloc o).alloc p).alloc q) := (below2 o p).alloc (by simp; omega) _
theorem below4 {w : World} (o p q r : Obj) : Below w.heap.size w ((((w.alloc o).alloc p).alloc q).alloc r) := (below3 o p q).alloc (by simp; omega) _
theorem boxed1 {w w1 : World} {o : Obj} (h : Below (w.alloc o).heap.size (w.alloc o) w1) : Below w.heap.size w w1 := btr (below1 o) h
theorem boxed2 {w w1 : World} {o p : Obj} (h : Below ((w.alloc o).alloc p).heap.size ((w.alloc o).alloc p) w1) : Below w.heap.size w w1 := btr (below2 o p) h
theorem boxed3 {w w1 : World} {o p q : Obj} (h : Below (((w.alloc o).alloc p).alloc q).heap.size (((w.alloc o).alloc p).alloc q) w1) : Below w.heap.size w w1 := btr (below3 o p q) h
theorem below_drew1 (w : World) : Below w.heap.size w w.drew := (Below.refl _ _).drew
/-- What a region with calls keeps of a boxed triple: its cells, that it is old, and that nothing older has turned. -/
theorem boxS_below {w W W' : World} {b : Nat} {x y z : Value} (h : W.cell? ⟨b, 0, none⟩ = some x ∧ W.cell? ⟨b, 1, none⟩ = some y ∧ W.cell? ⟨b, 2, none⟩ = some z ∧ b < W.heap.size ∧ Below w.heap.size w W) (hb : Below W.heap.size W W') :
    W'.cell? ⟨b, 0, none⟩ = some x ∧ W'.cell? ⟨b, 1, none⟩ = some y ∧ W'.cell? ⟨b, 2, none⟩ = some z ∧ b < W'.heap.size ∧ Below w.heap.size w W' := by
  obtain ⟨h0, h1, h2, h3, h4⟩ := h
  obtain ⟨hc, _⟩ := bcell hb
  exact ⟨by rw [hc _ _ h3, h0], by rw [hc _ _ h3, h1], by rw [hc _ _ h3, h2], Nat.lt_of_lt_of_le h3 hb.size, btr h4 hb⟩
theorem boxS_last {w W : World} {b : Nat} {x y z : Value} (h : W.cell? ⟨b, 0, none⟩ = some x ∧ W.cell? ⟨b, 1, none⟩ = some y ∧ W.cell? ⟨b, 2, none⟩ = some z ∧ b < W.heap.size ∧ Below w.heap.size w W) : Below w.heap.size w W := h.2.2.2.2
theorem boxS_of {w W : World} {x y z : Value} {t : TypeId} (hA : Below (w.alloc (.cells #[x, y, z] t)).heap.size (w.alloc (.cells #[x, y, z] t)) W) :
    W.cell? ⟨w.heap.size, 0, none⟩ = some x ∧ W.cell? ⟨w.heap.size, 1, none⟩ = some y ∧ W.cell? ⟨w.heap.size, 2, none⟩ = some z ∧ w.heap.size < W.heap.size ∧ Below w.heap.size w W := by
  refine boxS_below (W := w.alloc (.cells #[x, y, z] t)) ?_ hA
  simp [below1]

/- Plain facts for chapter 1: places and keys. -/
/-- half tones of a step above C. -/
def halZ (i : Int) : Int := if i = 0 then 0 else if i = 1 then 2 else if i = 2 then 4 else if i = 3 then 5 else if i = 4 then 7 else if i = 5 then 9 else 11
/-- half tones of a place. -/
def natZ (p : Int) : Int := 12 * (p / 7) + halZ (p % 7)
def placeZ (s a o : Int) : Int := if pvB s a o then 7 * o + s else -1
def keyZ (s a o : Int) : Int := if pvB s a o then natZ (7 * o + s) + a else -100
theorem mod7 (p : Int) : p % 7 = 0 ∨ p % 7 = 1 ∨ p % 7 = 2 ∨ p % 7 = 3 ∨ p % 7 = 4 ∨ p % 7 = 5 ∨ p % 7 = 6 := by omega
theorem step7 {s : Int} (h0 : 0 ≤ s) (h6 : s ≤ 6) : s = 0 ∨ s = 1 ∨ s = 2 ∨ s = 3 ∨ s = 4 ∨ s = 5 ∨ s = 6 := by omega
theorem halZ_bd (i : Int) : 0 ≤ halZ i ∧ halZ i ≤ 11 := by unfold halZ; (repeat' split) <;> omega
theorem natZ_bd {p : Int} (h0 : 0 ≤ p) : 0 ≤ natZ p ∧ natZ p ≤ 12 * (p / 7) + 11 := by have := halZ_bd (p % 7); unfold natZ; omega
theorem natZ_os {s o : Int} (h0 : 0 ≤ s) (h6 : s ≤ 6) : natZ (7 * o + s) = 12 * o + halZ s := by
  unfold natZ; rw [show (7 * o + s) / 7 = o by omega, show (7 * o + s) % 7 = s by omega]

/- Plain facts for chapter 2: intervals as pairs of integers. -/
/-- how much larger than the natural one. -/
def quZ (st ha : Int) : Int := if st < 0 ∨ (st = 0 ∧ ha < 0) then -ha - natZ (-st) else ha - natZ st
/-- the interval is valid. -/
def ivB (st ha : Int) : Bool := inB st (-21) 21 && inB ha (-60) 60 && inB (quZ st ha) (-3) 3
theorem ivB_iff {st ha : Int} : ivB st ha = true ↔ (-21 ≤ st ∧ st ≤ 21) ∧ (-60 ≤ ha ∧ ha ≤ 60) ∧ (-3 ≤ quZ st ha ∧ quZ st ha ≤ 3) := by
  unfold ivB; simp [inB_iff, and_assoc]
theorem natZ_zero : natZ 0 = 0 := by decide
theorem natZ_up (p : Int) : natZ (p + 7) = natZ p + 12 := by
  unfold natZ
  rw [show (p + 7) % 7 = p % 7 by omega, show (p + 7) / 7 = p / 7 + 1 by omega]
  omega
theorem quZ_neg (st ha : Int) : quZ (-st) (-ha) = quZ st ha := by
  unfold quZ
  by_cases h1 : st < 0
  · rw [if_neg (by omega), if_pos (Or.inl h1)]
  by_cases h2 : 0 < st
  · rw [if_pos (by omega), if_neg (by omega), show - -st = st by omega, show - -ha = ha by omega]
  have h3 : st = 0 := by omega
  subst h3
  by_cases h4 : ha < 0
  · rw [if_neg (by omega), if_pos (Or.inr ⟨rfl, h4⟩)]
  by_cases h5 : 0 < ha
  · rw [if_pos (by omega), if_neg (by omega)]
    have := natZ_zero
    simp
  have h6 : ha = 0 := by omega
  subst h6
  simp
theorem ivB_neg (st ha : Int) : ivB (-st) (-ha) = ivB st ha := by
  rw [Bool.eq_iff_iff, ivB_iff, ivB_iff, quZ_neg]
  omega
/-- the way from one pitch to another one. -/
def dpZ (s o s' o' : Int) : Int := 7 * o' + s' - (7 * o + s)
def ofB (s a o s' a' o' : Int) : Bool := pvB s a o && pvB s' a' o' && ivB (dpZ s o s' o') (keyZ s' a' o' - keyZ s a o)
/-- the pitch to which an interval leads. -/
def adP (s o st : Int) : Int := 7 * o + s + st
def adA (s a o st ha : Int) : Int := keyZ s a o + ha - natZ (adP s o st)
def adB (s a o st ha : Int) : Bool := pvB s a o && ivB st ha && decide (0 ≤ adP s o st) && pvB (adP s o st % 7) (adA s a o st ha) (adP s o st / 7)
def reB (st ha : Int) : Bool := ivB st ha && inB st 0 7 && ivB (7 - st) (12 - ha)
theorem quZ_up {st ha : Int} (h1 : 1 ≤ st) : quZ (st + 7) (ha + 12) = quZ st ha := by
  unfold quZ
  rw [if_neg (by omega), if_neg (by omega), natZ_up]
  omega
open Go.RowKit in
/-- What a region with calls keeps of a boxed pair. -/
theorem boxT_below {w W W' : World} {b : Nat} {x y : Value} (h : W.cell? ⟨b, 0, none⟩ = some x ∧ W.cell? ⟨b, 1, none⟩ = some y ∧ b < W.heap.size ∧ Below w.heap.size w W) (hb : Below W.heap.size W W') :
    W'.cell? ⟨b, 0, none⟩ = some x ∧ W'.cell? ⟨b, 1, none⟩ = some y ∧ b < W'.heap.size ∧ Below w.heap.size w W' := by
  obtain ⟨h0, h1, h3, h4⟩ := h
  obtain ⟨hc, _⟩ := bcell hb
  exact ⟨by rw [hc _ _ h3, h0], by rw [hc _ _ h3, h1], Nat.lt_of_lt_of_le h3 hb.size, btr h4 hb⟩
open Go.RowKit in
theorem boxT_new (w : World) (x y : Value) (t : TypeId) : (w.alloc (.cells #[x, y] t)).cell? ⟨w.heap.size, 0, none⟩ = some x ∧ (w.alloc (.cells #[x, y] t)).cell? ⟨w.heap.size, 1, none⟩ = some y ∧ w.heap.size < (w.alloc (.cells #[x, y] t)).heap.size ∧ Below w.heap.size w (w.alloc (.cells #[x, y] t)) := by
  simp [below1]
open Go.RowKit in
theorem boxT_last {w W : World} {b : Nat} {x y : Value} (h : W.cell? ⟨b, 0, none⟩ = some x ∧ W.cell? ⟨b, 1, none⟩ = some y ∧ b < W.heap.size ∧ Below w.heap.size w W) : Below w.heap.size w W := h.2.2.2
theorem wr {n : Int} (h0 : -9223372036854775808 ≤ n) (h1 : n ≤ 9223372036854775807) : IntKind.i64.wrap n = n := IntWalk.i64_in _ ⟨h0, h1⟩

open Go.RowKit

/-- Two boxed triples, one behind the other at n, and what has been made since w0. -/
abbrev BoxU (n : Nat) (w W : World) (x y z x' y' z' : Value) : Prop :=
  W.cell? ⟨n, 0, none⟩ = some x ∧ W.cell? ⟨n, 1, none⟩ = some y ∧ W.cell? ⟨n, 2, none⟩ = some z ∧ W.cell? ⟨n + 1, 0, none⟩ = some x' ∧ W.cell? ⟨n + 1, 1, none⟩ = some y' ∧ W.cell? ⟨n + 1, 2, none⟩ = some z' ∧
    n < W.heap.size ∧ n + 1 < W.heap.size ∧ n + 1 + 1 < W.heap.size ∧ Below w.heap.size w W

theorem boxU_below {n : Nat} {w W W' : World} {x y z x' y' z' : Value} (h : BoxU n w W x y z x' y' z') (hb : Below W.heap.size W W') : BoxU n w W' x y z x' y' z' := by
  obtain ⟨h0, h1, h2, g0, g1, g2, h3, h4, h6, h5⟩ := h
  obtain ⟨hc, _⟩ := bcell hb
  exact ⟨by rw [hc _ _ h3, h0], by rw [hc _ _ h3, h1], by rw [hc _ _ h3, h2], by rw [hc _ _ h4, g0], by rw [hc _ _ h4, g1], by rw [hc _ _ h4, g2], Nat.lt_of_lt_of_le h3 hb.size, Nat.lt_of_lt_of_le h4 hb.size, Nat.lt_of_lt_of_le h6 hb.size, btr h5 hb⟩

theorem boxU_b {n : Nat} {w W : World} {x y z x' y' z' : Value} (h : BoxU n w W x y z x' y' z') : Below w.heap.size w W := h.2.2.2.2.2.2.2.2.2

/-- The newest block may be laid otherwise. -/
theorem boxU_re {n : Nat} {w W : World} {x y z x' y' z' : Value} {o o' : Obj} (hq : w.heap.size ≤ W.heap.size) (h : BoxU n w (W.alloc o) x y z x' y' z') : BoxU n w (W.alloc o') x y z x' y' z' := by
  obtain ⟨h0, h1, h2, g0, g1, g2, h3, h4, h6, h5⟩ := h
  have hz : (W.alloc o).heap.size = W.heap.size + 1 := by simp
  have hz' : (W.alloc o').heap.size = W.heap.size + 1 := by simp
  have n0 : n < W.heap.size := by omega
  have n1 : n + 1 < W.heap.size := by omega
  have e : ∀ b i, b < W.heap.size → (W.alloc o').cell? ⟨b, i, none⟩ = (W.alloc o).cell? ⟨b, i, none⟩ := fun b i hb => by rw [World.cell?_alloc_lt W _ _ hb, World.cell?_alloc_lt W _ _ hb]
  refine ⟨by rw [e _ _ n0, h0], by rw [e _ _ n0, h1], by rw [e _ _ n0, h2], by rw [e _ _ n1, g0], by rw [e _ _ n1, g1], by rw [e _ _ n1, g2], by omega, by omega, by omega, h5.os, h5.tape, h5.output, by omega, fun k hk => ?_⟩
  have := h5.block k hk
  rw [Below.heap_alloc W o k (by omega)] at this
  rw [Below.heap_alloc W o' k (by omega)]
  exact this
/-- A store into a block made behind the two. -/
theorem boxU_set {n : Nat} {w W : World} {x y z x' y' z' : Value} {q i : Nat} (hq : n + 1 < q ∧ w.heap.size ≤ q) (h : BoxU n w W x y z x' y' z') (u : Value) : BoxU n w (W.setCell ⟨q, i, none⟩ u) x y z x' y' z' := by
  obtain ⟨h0, h1, h2, g0, g1, g2, h3, h4, h6, h5⟩ := h
  have e : ∀ b j, b < q → (W.setCell ⟨q, i, none⟩ u).cell? ⟨b, j, none⟩ = W.cell? ⟨b, j, none⟩ := fun b j hb => World.cell?_setCell_other W _ _ _ (fun ee => absurd (congrArg Addr.block ee) (by show q ≠ b; omega))
  have n0 : n < q := by omega
  exact ⟨by rw [e _ _ n0, h0], by rw [e _ _ n0, h1], by rw [e _ _ n0, h2], by rw [e _ _ hq.1, g0], by rw [e _ _ hq.1, g1], by rw [e _ _ hq.1, g2], by simpa using h3, by simpa using h4, by simpa using h6, h5.setCell hq.2 u⟩
/-- A boxed triple, and a boxed pair behind it at n, and what has been made since w0. -/
abbrev BoxV (n : Nat) (w W : World) (x y z x' y' : Value) : Prop :=
  W.cell? ⟨n, 0, none⟩ = some x ∧ W.cell? ⟨n, 1, none⟩ = some y ∧ W.cell? ⟨n, 2, none⟩ = some z ∧ W.cell? ⟨n + 1, 0, none⟩ = some x' ∧ W.cell? ⟨n + 1, 1, none⟩ = some y' ∧
    n < W.heap.size ∧ n + 1 < W.heap.size ∧ n + 1 + 1 < W.heap.size ∧ Below w.heap.size w W

theorem boxV_below {n : Nat} {w W W' : World} {x y z x' y' : Value} (h : BoxV n w W x y z x' y') (hb : Below W.heap.size W W') : BoxV n w W' x y z x' y' := by
  obtain ⟨h0, h1, h2, g0, g1, h3, h4, h6, h5⟩ := h
  obtain ⟨hc, _⟩ := bcell hb
  exact ⟨by rw [hc _ _ h3, h0], by rw [hc _ _ h3, h1], by rw [hc _ _ h3, h2], by rw [hc _ _ h4, g0], by rw [hc _ _ h4, g1], Nat.lt_of_lt_of_le h3 hb.size, Nat.lt_of_lt_of_le h4 hb.size, Nat.lt_of_lt_of_le h6 hb.size, btr h5 hb⟩

theorem boxV_b {n : Nat} {w W : World} {x y z x' y' : Value} (h : BoxV n w W x y z x' y') : Below w.heap.size w W := h.2.2.2.2.2.2.2.2

/-- The newest block may be laid otherwise. -/
theorem boxV_re {n : Nat} {w W : World} {x y z x' y' : Value} {o o' : Obj} (hq : w.heap.size ≤ W.heap.size) (h : BoxV n w (W.alloc o) x y z x' y') : BoxV n w (W.alloc o') x y z x' y' := by
  obtain ⟨h0, h1, h2, g0, g1, h3, h4, h6, h5⟩ := h
  have hz : (W.alloc o).heap.size = W.heap.size + 1 := by simp
  have hz' : (W.alloc o').heap.size = W.heap.size + 1 := by simp
  have n0 : n < W.heap.size := by omega
  have n1 : n + 1 < W.heap.size := by omega
  have e : ∀ b i, b < W.heap.size → (W.alloc o').cell? ⟨b, i, none⟩ = (W.alloc o).cell? ⟨b, i, none⟩ := fun b i hb => by rw [World.cell?_alloc_lt W _ _ hb, World.cell?_alloc_lt W _ _ hb]
  refine ⟨by rw [e _ _ n0, h0], by rw [e _ _ n0, h1], by rw [e _ _ n0, h2], by rw [e _ _ n1, g0], by rw [e _ _ n1, g1], by omega, by omega, by omega, h5.os, h5.tape, h5.output, by omega, fun k hk => ?_⟩
  have := h5.block k hk
  rw [Below.heap_alloc W o k (by omega)] at this
  rw [Below.heap_alloc W o' k (by omega)]
  exact this
/-- A store into a block made behind the two. -/
theorem boxV_set {n : Nat} {w W : World} {x y z x' y' : Value} {q i : Nat} (hq : n + 1 < q ∧ w.heap.size ≤ q) (h : BoxV n w W x y z x' y') (u : Value) : BoxV n w (W.setCell ⟨q, i, none⟩ u) x y z x' y' := by
  obtain ⟨h0, h1, h2, g0, g1, h3, h4, h6, h5⟩ := h
  have e : ∀ b j, b < q → (W.setCell ⟨q, i, none⟩ u).cell? ⟨b, j, none⟩ = W.cell? ⟨b, j, none⟩ := fun b j hb => World.cell?_setCell_other W _ _ _ (fun ee => absurd (congrArg Addr.block ee) (by show q ≠ b; omega))
  have n0 : n < q := by omega
  exact ⟨by rw [e _ _ n0, h0], by rw [e _ _ n0, h1], by rw [e _ _ n0, h2], by rw [e _ _ hq.1, g0], by rw [e _ _ hq.1, g1], by simpa using h3, by simpa using h4, by simpa using h6, h5.setCell hq.2 u⟩
/-- A new block of two numbers, as the walk wants it. -/
abbrev NewB (q : Nat) (W : World) (x y : Value) : Prop := W.cell? ⟨q, 0, none⟩ = some x ∧ W.cell? ⟨q, 1, none⟩ = some y ∧ W.frozen? ⟨q, 0, none⟩ = false ∧ W.frozen? ⟨q, 1, none⟩ = false ∧ q < W.heap.size
theorem newB_keep {q : Nat} {W W' : World} {x y : Value} (h : NewB q W x y) (hb : Below W.heap.size W W') : NewB q W' x y := by
  obtain ⟨h0, h1, h2, h3, h4⟩ := h
  obtain ⟨hc, hf⟩ := bcell hb
  exact ⟨by rw [hc _ _ h4, h0], by rw [hc _ _ h4, h1], by rw [hf _ _ h4, h2], by rw [hf _ _ h4, h3], Nat.lt_of_lt_of_le h4 hb.size⟩
theorem newB_new {X W' : World} {x y : Value} {t : TypeId} (hb : Below (X.alloc (.cells #[x, y] t)).heap.size (X.alloc (.cells #[x, y] t)) W') : NewB X.heap.size W' x y :=
  newB_keep ⟨by simp, by simp, World.frozen?_alloc_at _ _ _ _ (by simp), World.frozen?_alloc_at _ _ _ _ (by simp), by simp⟩ hb
theorem newB_newD {X W' : World} {x y : Value} {t : TypeId} (hb : Below (X.alloc (.cells #[x, y] t)).drew.heap.size (X.alloc (.cells #[x, y] t)).drew W') : NewB X.heap.size W' x y :=
  newB_new (t := t) ⟨hb.os, hb.tape, hb.output, hb.size, hb.block⟩
theorem lt_of_below {W W' : World} (hb : Below W.heap.size W W') : ∀ k, k < W.heap.size → k < W'.heap.size := fun _ h => Nat.lt_of_lt_of_le h hb.size
theorem below_alloc_drew {w W : World} (h : Below w.heap.size w W) (o : Obj) : Below w.heap.size w (W.alloc o).drew := (h.alloc h.size o).drew
/-- The new block behind a store of both. -/
theorem newB_set {q : Nat} {W : World} {x y : Value} (h : NewB q W x y) (u v : Value) : ((W.setCell ⟨q, 0, none⟩ u).setCell ⟨q, 1, none⟩ v).cell? ⟨q, 0, none⟩ = some u ∧ ((W.setCell ⟨q, 0, none⟩ u).setCell ⟨q, 1, none⟩ v).cell? ⟨q, 1, none⟩ = some v := by
  obtain ⟨h0, h1, _, _, _⟩ := h
  have e1 : (W.setCell ⟨q, 0, none⟩ u).cell? ⟨q, 1, none⟩ = some y := by rw [World.cell?_setCell_other W _ _ _ (fun ee => absurd (congrArg Addr.off ee) (by show (0 : Nat) ≠ 1; omega)), h1]
  refine ⟨?_, World.cell?_setCell_same _ _ _ e1⟩
  rw [World.cell?_setCell_other _ _ _ _ (fun ee => absurd (congrArg Addr.off ee) (by show (1 : Nat) ≠ 0; omega))]
  exact World.cell?_setCell_same _ _ _ h0
/-- A new block of three numbers. -/
abbrev NewC (q : Nat) (W : World) (x y z : Value) : Prop := W.cell? ⟨q, 0, none⟩ = some x ∧ W.cell? ⟨q, 1, none⟩ = some y ∧ W.cell? ⟨q, 2, none⟩ = some z ∧ W.frozen? ⟨q, 0, none⟩ = false ∧ W.frozen? ⟨q, 1, none⟩ = false ∧ W.frozen? ⟨q, 2, none⟩ = false ∧ q < W.heap.size
theorem newC_keep {q : Nat} {W W' : World} {x y z : Value} (h : NewC q W x y z) (hb : Below W.heap.size W W') : NewC q W' x y z := by
  obtain ⟨h0, h1, h2, f0, f1, f2, h4⟩ := h
  obtain ⟨hc, hf⟩ := bcell hb
  exact ⟨by rw [hc _ _ h4, h0], by rw [hc _ _ h4, h1], by rw [hc _ _ h4, h2], by rw [hf _ _ h4, f0], by rw [hf _ _ h4, f1], by rw [hf _ _ h4, f2], Nat.lt_of_lt_of_le h4 hb.size⟩
theorem newC_new {X W' : World} {x y z : Value} {t : TypeId} (hb : Below (X.alloc (.cells #[x, y, z] t)).heap.size (X.alloc (.cells #[x, y, z] t)) W') : NewC X.heap.size W' x y z :=
  newC_keep ⟨by simp, by simp, by simp, World.frozen?_alloc_at _ _ _ _ (by simp), World.frozen?_alloc_at _ _ _ _ (by simp), World.frozen?_alloc_at _ _ _ _ (by simp), by simp⟩ hb
theorem newC_newD {X W' : World} {x y z : Value} {t : TypeId} (hb : Below (X.alloc (.cells #[x, y, z] t)).drew.heap.size (X.alloc (.cells #[x, y, z] t)).drew W') : NewC X.heap.size W' x y z :=
  newC_new (t := t) ⟨hb.os, hb.tape, hb.output, hb.size, hb.block⟩
/-- The new block behind a store of all three: the two cells in the middle of the stores, too. -/
theorem newC_set {q : Nat} {W : World} {x y z : Value} (h : NewC q W x y z) (t u v : Value) :
    (W.setCell ⟨q, 0, none⟩ t).cell? ⟨q, 0, none⟩ = some t ∧ ((W.setCell ⟨q, 0, none⟩ t).setCell ⟨q, 1, none⟩ u).cell? ⟨q, 1, none⟩ = some u ∧
    (((W.setCell ⟨q, 0, none⟩ t).setCell ⟨q, 1, none⟩ u).setCell ⟨q, 2, none⟩ v).cell? ⟨q, 0, none⟩ = some t ∧ (((W.setCell ⟨q, 0, none⟩ t).setCell ⟨q, 1, none⟩ u).setCell ⟨q, 2, none⟩ v).cell? ⟨q, 1, none⟩ = some u ∧
    (((W.setCell ⟨q, 0, none⟩ t).setCell ⟨q, 1, none⟩ u).setCell ⟨q, 2, none⟩ v).cell? ⟨q, 2, none⟩ = some v := by
  obtain ⟨h0, h1, h2, _, _, _, _⟩ := h
  have o : ∀ (V : World) (i j : Nat) (c : Value), i ≠ j → (V.setCell ⟨q, i, none⟩ c).cell? ⟨q, j, none⟩ = V.cell? ⟨q, j, none⟩ := fun V i j c hij => World.cell?_setCell_other V _ _ _ (fun ee => hij (congrArg Addr.off ee))
  have a0 := World.cell?_setCell_same (v := t) W _ h0
  have a1 := World.cell?_setCell_same (v := u) (W.setCell ⟨q, 0, none⟩ t) ⟨q, 1, none⟩ (by rw [o _ _ _ _ (by omega), h1])
  refine ⟨a0, a1, ?_, ?_, ?_⟩
  · rw [o _ _ _ _ (by omega), o _ _ _ _ (by omega), a0]
  · rw [o _ _ _ _ (by omega), a1]
  · exact World.cell?_setCell_same _ _ _ (u := z) (by rw [o _ _ _ _ (by omega), o _ _ _ _ (by omega), h2])
theorem set3_of {w w1 : World} {b : Nat} (h : Below w.heap.size w w1) (hb : w.heap.size ≤ b) (x y z : Value) : Below w.heap.size w (((w1.setCell ⟨b, 0, none⟩ x).setCell ⟨b, 1, none⟩ y).setCell ⟨b, 2, none⟩ z) :=
  ((h.setCell hb _).setCell hb _).setCell hb _

/- Plain facts for the promises of chapter 2. -/

theorem halZ_at {p : Int} : natZ p = 12 * (p / 7) + halZ (p % 7) := rfl
theorem key_as {s a o : Int} (hv : pvB s a o = true) : keyZ s a o = natZ (7 * o + s) + a := by rw [keyZ, if_pos hv]

/-- The way from one pitch to another, added, leads there. -/
theorem of_add {s a o s' a' o' : Int} (hv : ofB s a o s' a' o' = true) :
    adB s a o (dpZ s o s' o') (keyZ s' a' o' - keyZ s a o) = true ∧ adP s o (dpZ s o s' o') % 7 = s' ∧ adA s a o (dpZ s o s' o') (keyZ s' a' o' - keyZ s a o) = a' ∧ adP s o (dpZ s o s' o') / 7 = o' := by
  unfold ofB at hv
  simp only [Bool.and_eq_true] at hv
  obtain ⟨⟨v1, v2⟩, v3⟩ := hv
  obtain ⟨⟨g1, g2⟩, ⟨g3, g4⟩, ⟨g5, g6⟩⟩ := pvB_iff.1 v2
  have e0 : adP s o (dpZ s o s' o') = 7 * o' + s' := by unfold adP dpZ; omega
  have e1 : adP s o (dpZ s o s' o') % 7 = s' := by rw [e0]; omega
  have e2 : adP s o (dpZ s o s' o') / 7 = o' := by rw [e0]; omega
  have e3 : adA s a o (dpZ s o s' o') (keyZ s' a' o' - keyZ s a o) = a' := by
    unfold adA; rw [e0]; have := key_as v2; omega
  refine ⟨?_, e1, e3, e2⟩
  unfold adB
  simp only [Bool.and_eq_true, decide_eq_true_eq]
  refine ⟨⟨⟨v1, v3⟩, by rw [e0]; omega⟩, ?_⟩
  rw [e1, e2, e3]; exact v2

/-- The way back is the way with both signs changed. -/
theorem of_back {s a o s' a' o' : Int} (hv : ofB s a o s' a' o' = true) : ofB s' a' o' s a o = true ∧ dpZ s' o' s o = -dpZ s o s' o' ∧ keyZ s a o - keyZ s' a' o' = -(keyZ s' a' o' - keyZ s a o) := by
  unfold ofB at hv ⊢
  simp only [Bool.and_eq_true] at hv ⊢
  obtain ⟨⟨v1, v2⟩, v3⟩ := hv
  have e1 : dpZ s' o' s o = -dpZ s o s' o' := by unfold dpZ; omega
  have e2 : keyZ s a o - keyZ s' a' o' = -(keyZ s' a' o' - keyZ s a o) := by omega
  exact ⟨⟨⟨v2, v1⟩, by rw [e1, e2, ivB_neg]; exact v3⟩, e1, e2⟩

/-- Between both pitches lies the way that was added; and it leads back. -/
theorem ad_of {s a o st ha x y z : Int} (hv : adB s a o st ha = true) (hx : adP s o st % 7 = x) (hy : adA s a o st ha = y) (hz : adP s o st / 7 = z) :
    ofB s a o x y z = true ∧ dpZ s o x z = st ∧ keyZ x y z - keyZ s a o = ha := by
  unfold adB at hv
  simp only [Bool.and_eq_true, decide_eq_true_eq] at hv
  obtain ⟨⟨⟨v1, v2⟩, v3⟩, v4⟩ := hv
  rw [hx, hy, hz] at v4
  have e0 : 7 * z + x = adP s o st := by omega
  have e1 : dpZ s o x z = st := by unfold dpZ; rw [e0]; unfold adP; omega
  have e2 : keyZ x y z - keyZ s a o = ha := by
    rw [key_as v4, e0, ← hy]; unfold adA; omega
  refine ⟨?_, e1, e2⟩
  unfold ofB
  simp only [Bool.and_eq_true]
  rw [e1, e2]
  exact ⟨⟨v1, v4⟩, v2⟩

theorem qu_bd {st ha : Int} (hv : ivB st ha = true) : -3 ≤ quZ st ha ∧ quZ st ha ≤ 3 := (ivB_iff.1 hv).2.2

/-- An octave more is valid, and has the same quality. -/
theorem iv_up {st ha : Int} (hv : ivB st ha = true) (h1 : 1 ≤ st) (h2 : st ≤ 14) : ivB (st + 7) (ha + 12) = true ∧ quZ (st + 7) (ha + 12) = quZ st ha := by
  obtain ⟨⟨a1, a2⟩, ⟨b1, b2⟩, ⟨c1, c2⟩⟩ := ivB_iff.1 hv
  have e := quZ_up (ha := ha) h1
  refine ⟨ivB_iff.2 ⟨by omega, ?_, by omega⟩, e⟩
  have nb := natZ_bd (p := st) (by omega)
  unfold quZ at c1 c2
  rw [if_neg (by omega)] at c1 c2
  omega

/-- Rests make octaves. -/
theorem re_back {st ha : Int} (hv : reB st ha = true) : reB (7 - st) (12 - ha) = true := by
  unfold reB at hv ⊢
  simp only [Bool.and_eq_true, inB_iff] at hv ⊢
  rw [show 7 - (7 - st) = st by omega, show 12 - (12 - ha) = ha by omega]
  exact ⟨⟨hv.2, by omega⟩, hv.1.1⟩

/-- a number of 64 bits. -/
def r64 (x : Int) : Prop := -9223372036854775808 ≤ x ∧ x ≤ 9223372036854775807

/- Plain facts for chapter 3: keys. -/
/-- the place of a step in the order of sharps. -/
def ordZ (s : Int) : Int := if s = 0 then 1 else if s = 1 then 3 else if s = 2 then 5 else if s = 3 then 0 else if s = 4 then 2 else if s = 5 then 4 else 6
theorem ordZ_bd (s : Int) : 0 ≤ ordZ s ∧ ordZ s ≤ 6 := by unfold ordZ; (repeat' split) <;> omega
/-- the alteration of a step in a key. -/
def altZ (f s : Int) : Int := if ordZ s < f then 1 else if f < ordZ s - 6 then -1 else 0
theorem altZ_bd (f s : Int) : -1 ≤ altZ f s ∧ altZ f s ≤ 1 := by unfold altZ; (repeat' split) <;> omega
/-- a key. -/
def keyB (f : Int) : Bool := inB f (-7) 7
theorem keyB_iff {f : Int} : keyB f = true ↔ -7 ≤ f ∧ f ≤ 7 := inB_iff
/-- what KeyAlter answers. -/
def kaZ (f s : Int) : Int := if keyB f && inB s 0 6 then altZ f s else 0
/-- the step of the tonic. -/
def tonZ (f : Int) (m : Bool) : Int := if m then ((4 * f + 70) % 7 + 5) % 7 else (4 * f + 70) % 7
theorem tonZ_bd (f : Int) (m : Bool) : 0 ≤ tonZ f m ∧ tonZ f m ≤ 6 := by unfold tonZ; split <;> omega
/-- what InKey answers. -/
def ikB (f s a o : Int) : Bool := keyB f && pvB s a o && (a == altZ f s)
/-- does the tonic of the key have this step and this alteration? -/
def isTon (f : Int) (m : Bool) (s a : Int) : Bool := decide (tonZ f m = s) && decide (altZ f (tonZ f m) = a)
/-- what DegreeOf answers. -/
def dgZ (f : Int) (m : Bool) (s : Int) : Int := (s - tonZ f m) % 7
/-- No key below f has this tonic. -/
def noTon (m : Bool) (s a f : Int) : Prop := ∀ g, -7 ≤ g → g < f → isTon g m s a = false
theorem noTon_up {m : Bool} {s a f : Int} (h : noTon m s a f) (ht : isTon f m s a = false) : noTon m s a (f + 1) := fun g h1 h2 => by
  by_cases e : g = f
  · rw [e]; exact ht
  · exact h g h1 (by omega)

/- More plain facts for chapter 3: the program's table of alterations; scales; tonics. -/
/-- the program's table, from the most flats to the most sharps. -/
def altLL : List (List Int) := [[-1, -1, -1, -1, -1, -1, -1], [-1, -1, -1, 0, -1, -1, -1], [0, -1, -1, 0, -1, -1, -1], [0, -1, -1, 0, 0, -1, -1], [0, 0, -1, 0, 0, -1, -1], [0, 0, -1, 0, 0, 0, -1], [0, 0, 0, 0, 0, 0, -1], [0, 0, 0, 0, 0, 0, 0], [0, 0, 0, 1, 0, 0, 0], [1, 0, 0, 1, 0, 0, 0], [1, 0, 0, 1, 1, 0, 0], [1, 1, 0, 1, 1, 0, 0], [1, 1, 0, 1, 1, 1, 0], [1, 1, 1, 1, 1, 1, 0], [1, 1, 1, 1, 1, 1, 1]]
theorem altLL_at0 : ∀ i : Fin 15, ∀ j : Fin 7, altLL.flatten.getD (i.val * 7 + j.val) 0 = altZ ((i.val : Int) - 7) (j.val : Int) := by decide +kernel
theorem altLL_len : altLL.flatten.length = 105 := by decide +kernel
theorem altLL_at {f s : Int} (h0 : -7 ≤ f) (h1 : f ≤ 7) (s0 : 0 ≤ s) (s1 : s ≤ 6) : altLL.flatten.getD ((f + 7).toNat * 7 + s.toNat) 0 = altZ f s := by
  have := altLL_at0 ⟨(f + 7).toNat, by omega⟩ ⟨s.toNat, by omega⟩
  simp only at this
  rw [show (((f + 7).toNat : Nat) : Int) - 7 = f by omega, show ((s.toNat : Nat) : Int) = s by omega] at this
  exact this
/-- the tonic's step as the program reckons it. -/
theorem tonZ_prog0 (f : Int) : (4 * (f + 7)) % 7 = tonZ f false := by unfold tonZ; simp; omega
theorem tonZ_prog1 (f : Int) : (4 * (f + 7) + 5) % 7 = tonZ f true := by unfold tonZ; simp; omega
/-- A key has one tonic, and a tonic one key. -/
theorem ton_one0 : ∀ m : Bool, ∀ i j : Fin 15, isTon ((j.val : Int) - 7) m (tonZ ((i.val : Int) - 7) m) (altZ ((i.val : Int) - 7) (tonZ ((i.val : Int) - 7) m)) = decide (i = j) := by decide +kernel
theorem noTon_of {f : Int} {m : Bool} (h0 : -7 ≤ f) (h1 : f ≤ 7) : noTon m (tonZ f m) (altZ f (tonZ f m)) f := fun g g0 g1 => by
  have := ton_one0 m ⟨(f + 7).toNat, by omega⟩ ⟨(g + 7).toNat, by omega⟩
  simp only at this
  rw [show (((f + 7).toNat : Nat) : Int) - 7 = f by omega, show (((g + 7).toNat : Nat) : Int) - 7 = g by omega] at this
  rw [this]
  simp
  omega
theorem isTon_self (f : Int) (m : Bool) : isTon f m (tonZ f m) (altZ f (tonZ f m)) = true := by simp [isTon]
/-- A pitch is a tonic of some key, or of none. -/
theorem koCases (m : Bool) (s a : Int) : ∀ n : Nat, n ≤ 15 → (∃ f : Int, -7 ≤ f ∧ f ≤ 7 ∧ noTon m s a f ∧ isTon f m s a = true) ∨ noTon m s a ((n : Int) - 7)
  | 0, _ => Or.inr fun g h1 h2 => by simp at h2; omega
  | n + 1, hn => by
    rcases koCases m s a n (by omega) with h | h
    · exact Or.inl h
    · cases ht : isTon ((n : Int) - 7) m s a
      · have := noTon_up h ht
        exact Or.inr (by rw [show ((n + 1 : Nat) : Int) - 7 = (n : Int) - 7 + 1 by push_cast; omega]; exact this)
      · exact Or.inl ⟨_, by omega, by omega, h, ht⟩
theorem koCase (m : Bool) (s a : Int) : (∃ f : Int, -7 ≤ f ∧ f ≤ 7 ∧ noTon m s a f ∧ isTon f m s a = true) ∨ noTon m s a 8 := koCases m s a 15 (by omega)
/-- two finds are one. -/
theorem ko_one {m : Bool} {s a f g : Int} (f0 : -7 ≤ f) (g0 : -7 ≤ g) (h1 : noTon m s a f) (h2 : isTon f m s a = true) (h3 : noTon m s a g) (h4 : isTon g m s a = true) : f = g := by
  rcases Int.lt_trichotomy f g with h | h | h
  · have := h3 f f0 h; rw [h2] at this; cases this
  · exact h
  · have := h1 g g0 h; rw [h4] at this; cases this
/-- the pitches of a scale. -/
theorem scale_ok0 : ∀ m : Bool, ∀ i : Fin 15, ∀ j : Fin 8, pvB ((28 + tonZ ((i.val : Int) - 7) m + (j.val : Int)) % 7) (altZ ((i.val : Int) - 7) ((28 + tonZ ((i.val : Int) - 7) m + (j.val : Int)) % 7)) ((28 + tonZ ((i.val : Int) - 7) m + (j.val : Int)) / 7) = true := by decide +kernel
/-- how far the j-th pitch of a scale is above the one before. -/
def wantZ (m : Bool) (j : Int) : Int := if (m = false ∧ (j = 3 ∨ j = 7)) ∨ (m = true ∧ (j = 2 ∨ j = 5)) then 1 else 2
/-- the key of the j-th pitch of a scale. -/
def scK (f : Int) (m : Bool) (j : Int) : Int := keyZ ((28 + tonZ f m + j) % 7) (altZ f ((28 + tonZ f m + j) % 7)) ((28 + tonZ f m + j) / 7)
theorem scale_up0 : ∀ m : Bool, ∀ i : Fin 15, ∀ j : Fin 7, scK ((i.val : Int) - 7) m ((j.val : Int) + 1) - scK ((i.val : Int) - 7) m (j.val : Int) = wantZ m ((j.val : Int) + 1) := by decide +kernel
theorem scale_oct0 : ∀ m : Bool, ∀ i : Fin 15, scK ((i.val : Int) - 7) m 7 - scK ((i.val : Int) - 7) m 0 = 12 := by decide +kernel
theorem scale_ok {f j : Int} (m : Bool) (f0 : -7 ≤ f) (f1 : f ≤ 7) (j0 : 0 ≤ j) (j1 : j ≤ 7) : pvB ((28 + tonZ f m + j) % 7) (altZ f ((28 + tonZ f m + j) % 7)) ((28 + tonZ f m + j) / 7) = true := by
  have := scale_ok0 m ⟨(f + 7).toNat, by omega⟩ ⟨j.toNat, by omega⟩
  simp only at this
  rwa [show (((f + 7).toNat : Nat) : Int) - 7 = f by omega, show ((j.toNat : Nat) : Int) = j by omega] at this
theorem scale_up {f j : Int} (m : Bool) (f0 : -7 ≤ f) (f1 : f ≤ 7) (j0 : 1 ≤ j) (j1 : j ≤ 7) : scK f m j - scK f m (j - 1) = wantZ m j := by
  have := scale_up0 m ⟨(f + 7).toNat, by omega⟩ ⟨(j - 1).toNat, by omega⟩
  simp only at this
  rwa [show (((f + 7).toNat : Nat) : Int) - 7 = f by omega, show (((j - 1).toNat : Nat) : Int) = j - 1 by omega, show j - 1 + 1 = j by omega] at this
theorem scale_oct {f : Int} (m : Bool) (f0 : -7 ≤ f) (f1 : f ≤ 7) : scK f m 7 - scK f m 0 = 12 := by
  have := scale_oct0 m ⟨(f + 7).toNat, by omega⟩
  simp only at this
  rwa [show (((f + 7).toNat : Nat) : Int) - 7 = f by omega] at this
/-- the sum of the alterations of the first steps. -/
def sumA (f : Int) : Nat → Int
  | 0 => 0
  | k + 1 => sumA f k + altZ f (k : Int)
theorem sumA_bd (f : Int) : ∀ k : Nat, -(k : Int) ≤ sumA f k ∧ sumA f k ≤ k
  | 0 => by simp [sumA]
  | k + 1 => by have h1 := sumA_bd f k; have h2 := altZ_bd f k; simp only [sumA]; push_cast; omega
theorem sumA_70 : ∀ i : Fin 15, sumA ((i.val : Int) - 7) 7 = (i.val : Int) - 7 := by decide +kernel
theorem sumA_7 {f : Int} (f0 : -7 ≤ f) (f1 : f ≤ 7) : sumA f 7 = f := by
  have := sumA_70 ⟨(f + 7).toNat, by omega⟩
  simp only at this
  rwa [show (((f + 7).toNat : Nat) : Int) - 7 = f by omega] at this
theorem alt_sign0 : ∀ i : Fin 15, ∀ j : Fin 7, 0 ≤ altZ ((i.val : Int) - 7) (j.val : Int) * ((i.val : Int) - 7) := by decide +kernel
theorem alt_sign {f s : Int} (f0 : -7 ≤ f) (f1 : f ≤ 7) : 0 ≤ kaZ f s * f := by
  unfold kaZ
  split
  · rename_i h
    rw [Bool.and_eq_true] at h
    obtain ⟨s0, s1⟩ := inB_iff.1 h.2
    have := alt_sign0 ⟨(f + 7).toNat, by omega⟩ ⟨s.toNat, by omega⟩
    simp only at this
    rwa [show (((f + 7).toNat : Nat) : Int) - 7 = f by omega, show ((s.toNat : Nat) : Int) = s by omega] at this
  · simp
theorem kaZ_bd (f s : Int) : -1 ≤ kaZ f s ∧ kaZ f s ≤ 1 := by unfold kaZ; have := altZ_bd f s; split <;> omega
/-- the next key has each alteration, or one more. -/
theorem near_bd0 : ∀ i : Fin 14, ∀ j : Fin 7, 0 ≤ altZ ((i.val : Int) - 6) (j.val : Int) - altZ ((i.val : Int) - 7) (j.val : Int) ∧ altZ ((i.val : Int) - 6) (j.val : Int) - altZ ((i.val : Int) - 7) (j.val : Int) ≤ 1 := by decide +kernel
theorem near_bd {f s : Int} (f0 : -7 ≤ f) (f1 : f ≤ 6) (s0 : 0 ≤ s) (s1 : s ≤ 6) : 0 ≤ altZ (f + 1) s - altZ f s ∧ altZ (f + 1) s - altZ f s ≤ 1 := by
  have := near_bd0 ⟨(f + 7).toNat, by omega⟩ ⟨s.toNat, by omega⟩
  simp only at this
  rwa [show (((f + 7).toNat : Nat) : Int) - 7 = f by omega, show (((f + 7).toNat : Nat) : Int) - 6 = f + 1 by omega, show ((s.toNat : Nat) : Int) = s by omega] at this
end Go.Proofs.YtcgcnkddgihkpaaDoor
