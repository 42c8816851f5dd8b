/- What the reader of a code is in memory; frames for calls that move it on. -/
import Derived.Test.YtcmhfjpofkgjbaaDoorPure1
import Derived.Deep.Draws
import Derived.WalkSmall
namespace Go.Proofs.YtcmhfjpofkgjbaaDoor
set_option linter.unusedSimpArgs false
set_option linter.unusedVariables false
set_option maxRecDepth 8000
open Go.RowKit

/-- A slice of n bytes, its cells known to be there, in a block below B. -/
def BytesB (w : World) (B : Nat) (v : Value) (n : Nat) : Prop :=
  (n = 0 ∧ ∃ a c, v = .slice a 0 c) ∨
  (0 < n ∧ ∃ b off cap, n ≤ cap ∧ cap ≤ maxLen ∧ v = .slice (some ⟨b, off, none⟩) n cap ∧ b < B ∧ b < w.heap.size ∧ ∀ i, i < n → ∃ z : Int, 0 ≤ z ∧ z ≤ 255 ∧ w.cell? ⟨b, off + i, none⟩ = some (.int .u8 z))

/-- Block r holds a reader: its code, and how far it is (at most P). -/
def Rd (w : World) (r : Nat) (P : Int) : Prop :=
  ∃ v n p, n ≤ 2000 ∧ 0 ≤ p ∧ p ≤ P ∧ r < w.heap.size ∧ w.cell? ⟨r, 0, none⟩ = some v ∧ w.cell? ⟨r, 1, none⟩ = some (.int .i64 p) ∧ w.frozen? ⟨r, 1, none⟩ = false ∧ BytesB w r v n

theorem Rd.mono {w : World} {r : Nat} {P Q : Int} (h : Rd w r P) (hq : P ≤ Q) : Rd w r Q := by
  obtain ⟨v, n, p, h1, h2, h3, h4⟩ := h
  exact ⟨v, n, p, h1, h2, by omega, h4⟩
theorem Rd.lt {w : World} {r : Nat} {P : Int} (h : Rd w r P) : r < w.heap.size := by
  obtain ⟨v, n, p, h1, h2, h3, h4, _⟩ := h
  exact h4

theorem BytesB.keep {w w' : World} {B : Nat} {v : Value} {n : Nat} (h : BytesB w B v n) (hs : w.heap.size ≤ w'.heap.size) (hk : ∀ k, k < B → w'.heap[k]? = w.heap[k]?) : BytesB w' B v n := by
  rcases h with h | ⟨h0, b, off, cap, h1, h2, h3, h4, h5, h6⟩
  · exact Or.inl h
  · refine Or.inr ⟨h0, b, off, cap, h1, h2, h3, h4, by omega, fun i hi => ?_⟩
    obtain ⟨z, z0, z1, hz⟩ := h6 i hi
    exact ⟨z, z0, z1, by rw [World.cell?_of_block (w := w) (hk b h4), hz]⟩

/-- Nothing up to the reader's block has turned: it reads on. -/
theorem Rd.keep {w w' : World} {r : Nat} {P : Int} (h : Rd w r P) (hb : Below (r + 1) w w') : Rd w' r P := by
  obtain ⟨v, n, p, h1, h2, h3, h4, h5, h6, h7, h8⟩ := h
  refine ⟨v, n, p, h1, h2, h3, by have := hb.size; omega, ?_, ?_, ?_, h8.keep hb.size fun k hk => hb.block k (by omega)⟩
  · rw [World.cell?_of_block (w := w) (hb.block r (by omega)), h5]
  · rw [World.cell?_of_block (w := w) (hb.block r (by omega)), h6]
  · rw [World.frozen?_of_block (w := w) (hb.block r (by omega)), h7]

theorem Rd.below {w w' : World} {r : Nat} {P : Int} (h : Rd w r P) (hb : Below w.heap.size w w') : Rd w' r P := h.keep (hb.mono h.lt)

/-- But for block r nothing that was there has turned. -/
structure ButR (r : Nat) (w w' : World) : Prop where
  os : w'.os = w.os
  tape : w'.tape = w.tape
  output : w'.output = w.output
  size : w.heap.size ≤ w'.heap.size
  block : ∀ k, k < w.heap.size → k ≠ r → w'.heap[k]? = w.heap[k]?

theorem ButR.refl (r : Nat) (w : World) : ButR r w w := ⟨rfl, rfl, rfl, Nat.le_refl _, fun _ _ _ => rfl⟩
theorem ButR.trans {r : Nat} {a b c : World} (h : ButR r a b) (k : ButR r b c) : ButR r a c :=
  ⟨k.os.trans h.os, k.tape.trans h.tape, k.output.trans h.output, Nat.le_trans h.size k.size, fun i hi hr => (k.block i (Nat.lt_of_lt_of_le hi h.size) hr).trans (h.block i hi hr)⟩
theorem ButR.of_below {r : Nat} {w w' : World} (h : Below w.heap.size w w') : ButR r w w' := ⟨h.os, h.tape, h.output, h.size, fun k hk _ => h.block k hk⟩
theorem ButR.alloc {r : Nat} {w w' : World} (h : ButR r w w') (o : Obj) : ButR r w (w'.alloc o) := h.trans (.of_below ((Below.refl _ _).alloc (Nat.le_refl _) _))
theorem ButR.drewN {r : Nat} {w w' : World} (h : ButR r w w') (n : Nat) : ButR r w (w'.drewN n) := ⟨h.os, h.tape, h.output, h.size, h.block⟩
theorem ButR.setCell {r : Nat} {w w' : World} (h : ButR r w w') {p : Addr} (hp : w.heap.size ≤ p.block ∨ p.block = r) (u : Value) : ButR r w (w'.setCell p u) :=
  ⟨h.os, h.tape, h.output, by simpa [World.setCell] using h.size, fun k hk hr => by rw [Below.heap_setCell _ _ _ _ (by omega)]; exact h.block k hk hr⟩
theorem ButR.cells {r : Nat} {w w' : World} (h : ButR r w w') : (∀ b o, b < w.heap.size → b ≠ r → w'.cell? ⟨b, o, none⟩ = w.cell? ⟨b, o, none⟩) ∧ (∀ b o, b < w.heap.size → b ≠ r → w'.frozen? ⟨b, o, none⟩ = w.frozen? ⟨b, o, none⟩) :=
  ⟨fun b _ h1 h2 => World.cell?_of_block (w := w) (h.block b h1 h2), fun b _ h1 h2 => World.frozen?_of_block (w := w) (h.block b h1 h2)⟩
/-- Behind the reader's birth nothing older has turned. -/
theorem ButR.below {r : Nat} {w0 w w' : World} (h0 : Below w0.heap.size w0 w) (h : ButR r w w') (hr : w0.heap.size ≤ r) : Below w0.heap.size w0 w' :=
  ⟨h.os.trans h0.os, h.tape.trans h0.tape, h.output.trans h0.output, Nat.le_trans h0.size h.size, fun k hk => (h.block k (Nat.lt_of_lt_of_le hk h0.size) (by omega)).trans (h0.block k hk)⟩

/-- What a pick leaves. -/
def Picked (n : Int) (r : Nat) (P : Int) (w : World) (e : Ending) (w' : World) : Prop := ∃ x : Int, 0 ≤ x ∧ x < n ∧ e = .returned (.int .i64 x) ∧ Rd w' r (P + 1) ∧ ButR r w w'

theorem Rd.moved {w : World} {r : Nat} {v : Value} {n : Nat} {p P : Int} (k : Nat) (h1 : n ≤ 2000) (h2 : 0 ≤ p) (h3 : p ≤ P) (h4 : r < w.heap.size) (h5 : w.cell? ⟨r, 0, none⟩ = some v) (h6 : w.cell? ⟨r, 1, none⟩ = some (.int .i64 p)) (h7 : w.frozen? ⟨r, 1, none⟩ = false) (h8 : BytesB w r v n) :
    Rd ((w.setCell ⟨r, 1, none⟩ (.int .i64 (p + 1))).drewN k) r (P + 1) ∧ ButR r w ((w.setCell ⟨r, 1, none⟩ (.int .i64 (p + 1))).drewN k) := by
  refine ⟨⟨v, n, p + 1, h1, by omega, by omega, by simpa [World.setCell] using h4, ?_, ?_, ?_, ?_⟩, ((ButR.refl r w).setCell (Or.inr rfl) _).drewN k⟩
  · rw [World.cell?_drewN, World.cell?_setCell_other w ⟨r, 1, none⟩ ⟨r, 0, none⟩ _ (by simp)]; exact h5
  · rw [World.cell?_drewN]; exact World.cell?_setCell_same _ _ _ h6
  · rw [World.frozen?_drewN]; simp [h7]
  · exact h8.keep (by simp [World.setCell]) fun j hj => by rw [World.heap_drewN, Below.heap_setCell _ _ _ _ (by simp; omega)]
end Go.Proofs.YtcmhfjpofkgjbaaDoor
