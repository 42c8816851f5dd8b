/- Plain facts for chapter 1: pitches as triples of integers; small lemmas on worlds. -/
import Derived.WalkKit
namespace Go.Proofs.YtomdjmlfnjikfaaDoor
set_option linter.unusedSimpArgs false
set_option linter.unusedVariables false
open Go.RowKit
/-- n is in lo..hi. -/
def inB (n lo hi : Int) : Bool := decide (lo ≤ n) && decide (n ≤ hi)
/-- the pitch is valid. -/
def pvB (s a o : Int) : Bool := inB s 0 6 && inB a (-2) 2 && inB o 0 8
theorem inB_iff {n lo hi : Int} : inB n lo hi = true ↔ lo ≤ n ∧ n ≤ hi := by unfold inB; simp
theorem inB_no {n lo hi : Int} : inB n lo hi = false ↔ n < lo ∨ hi < n := by
  rw [← Bool.not_eq_true, inB_iff]; omega
theorem pvB_iff {s a o : Int} : pvB s a o = true ↔ (0 ≤ s ∧ s ≤ 6) ∧ (-2 ≤ a ∧ a ≤ 2) ∧ (0 ≤ o ∧ o ≤ 8) := by
  unfold pvB; simp [inB_iff, and_assoc]
theorem bcell {W w1 : World} (hb : Below W.heap.size W w1) : (∀ b o, b < W.heap.size → w1.cell? ⟨b, o, none⟩ = W.cell? ⟨b, o, none⟩) ∧ (∀ b o, b < W.heap.size → w1.frozen? ⟨b, o, none⟩ = W.frozen? ⟨b, o, none⟩) :=
  ⟨fun b o h => hb.cell (p := ⟨b, o, none⟩) h, fun b o h => hb.frozen (p := ⟨b, o, none⟩) h⟩
theorem btr {W0 W w1 : World} (h : Below W0.heap.size W0 W) (hb : Below W.heap.size W w1) : Below W0.heap.size W0 w1 := h.trans (hb.mono h.size)
theorem hid {p : Prop} (h : p) : Hid p := h
theorem World.size_alloc1 (w : World) (o : Obj) : (w.alloc o).heap.size = w.heap.size + 1 := by simp
theorem size_below {W w1 : World} {o : Obj} (hb : Below (W.alloc o).heap.size (W.alloc o) w1) : W.heap.size < w1.heap.size := by have := hb.size; simp at this; omega
theorem ret_bool {a b : Bool} (h : a = b) : Ending.returned (.bool a) = .returned (.bool b) := by rw [h]
theorem ret_int {k : IntKind} {a b : Int} (h : a = b) : Ending.returned (.int k a) = .returned (.int k b) := by rw [h]
theorem below1 {w : World} (o : Obj) : Below w.heap.size w (w.alloc o) := (Below.refl _ _).alloc (Nat.le_refl _) _
theorem below2 {w : World} (o p : Obj) : Below w.heap.size w ((w.alloc o).alloc p) := (below1 o).alloc (by simp) _
theorem below3 {w : World} (o p q : Obj) : Below w.heap.size w (((w.alloc o).alloc p).alloc q) := (below2 o p).alloc (by simp; omega) _
theorem below4 {w : World} (o p q r : Obj) : Below w.heap.size w ((((w.alloc o).alloc p).alloc q).alloc r) := (below3 o p q).alloc (by simp; omega) _
theorem boxed1 {w w1 : World} {o : Obj} (h : Below (w.alloc o).heap.size (w.alloc o) w1) : Below w.heap.size w w1 := btr (below1 o) h
theorem boxed2 {w w1 : World} {o p : Obj} (h : Below ((w.alloc o).alloc p).heap.size ((w.alloc o).alloc p) w1) : Below w.heap.size w w1 := btr (below2 o p) h
theorem boxed3 {w w1 : World} {o p q : Obj} (h : Below (((w.alloc o).alloc p).alloc q).heap.size (((w.alloc o).alloc p).alloc q) w1) : Below w.heap.size w w1 := btr (below3 o p q) h
theorem below_drew1 (w : World) : Below w.heap.size w w.drew := (Below.refl _ _).drew
/-- What a region with calls keeps of a boxed triple: its cells, that it is old, and that nothing older has turned. -/
theorem boxS_below {w W W' : World} {b : Nat} {x y z : Value} (h : W.cell? ⟨b, 0, none⟩ = some x ∧ W.cell? ⟨b, 1, none⟩ = some y ∧ W.cell? ⟨b, 2, none⟩ = some z ∧ b < W.heap.size ∧ Below w.heap.size w W) (hb : Below W.heap.size W W') :
    W'.cell? ⟨b, 0, none⟩ = some x ∧ W'.cell? ⟨b, 1, none⟩ = some y ∧ W'.cell? ⟨b, 2, none⟩ = some z ∧ b < W'.heap.size ∧ Below w.heap.size w W' := by
  obtain ⟨h0, h1, h2, h3, h4⟩ := h
  obtain ⟨hc, _⟩ := bcell hb
  exact ⟨by rw [hc _ _ h3, h0], by rw [hc _ _ h3, h1], by rw [hc _ _ h3, h2], Nat.lt_of_lt_of_le h3 hb.size, btr h4 hb⟩
theorem boxS_last {w W : World} {b : Nat} {x y z : Value} (h : W.cell? ⟨b, 0, none⟩ = some x ∧ W.cell? ⟨b, 1, none⟩ = some y ∧ W.cell? ⟨b, 2, none⟩ = some z ∧ b < W.heap.size ∧ Below w.heap.size w W) : Below w.heap.size w W := h.2.2.2.2
theorem boxS_of {w W : World} {x y z : Value} {t : TypeId} (hA : Below (w.alloc (.cells #[x, y, z] t)).heap.size (w.alloc (.cells #[x, y, z] t)) W) :
    W.cell? ⟨w.heap.size, 0, none⟩ = some x ∧ W.cell? ⟨w.heap.size, 1, none⟩ = some y ∧ W.cell? ⟨w.heap.size, 2, none⟩ = some z ∧ w.heap.size < W.heap.size ∧ Below w.heap.size w W := by
  refine boxS_below (W := w.alloc (.cells #[x, y, z] t)) ?_ hA
  simp [below1]

/- Plain facts for chapter 1: places and keys. -/
/-- half tones of a step above C. -/
def halZ (i : Int) : Int := if i = 0 then 0 else if i = 1 then 2 else if i = 2 then 4 else if i = 3 then 5 else if i = 4 then 7 else if i = 5 then 9 else 11
/-- half tones of a place. -/
def natZ (p : Int) : Int := 12 * (p / 7) + halZ (p % 7)
def placeZ (s a o : Int) : Int := if pvB s a o then 7 * o + s else -1
def keyZ (s a o : Int) : Int := if pvB s a o then natZ (7 * o + s) + a else -100
theorem mod7 (p : Int) : p % 7 = 0 ∨ p % 7 = 1 ∨ p % 7 = 2 ∨ p % 7 = 3 ∨ p % 7 = 4 ∨ p % 7 = 5 ∨ p % 7 = 6 := by omega
theorem step7 {s : Int} (h0 : 0 ≤ s) (h6 : s ≤ 6) : s = 0 ∨ s = 1 ∨ s = 2 ∨ s = 3 ∨ s = 4 ∨ s = 5 ∨ s = 6 := by omega
theorem halZ_bd (i : Int) : 0 ≤ halZ i ∧ halZ i ≤ 11 := by unfold halZ; (repeat' split) <;> omega
theorem natZ_bd {p : Int} (h0 : 0 ≤ p) : 0 ≤ natZ p ∧ natZ p ≤ 12 * (p / 7) + 11 := by have := halZ_bd (p % 7); unfold natZ; omega
theorem natZ_os {s o : Int} (h0 : 0 ≤ s) (h6 : s ≤ 6) : natZ (7 * o + s) = 12 * o + halZ s := by
  unfold natZ; rw [show (7 * o + s) / 7 = o by omega, show (7 * o + s) % 7 = s by omega]
end Go.Proofs.YtomdjmlfnjikfaaDoor
