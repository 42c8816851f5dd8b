/- What the reader of a code is in memory; frames for calls that move it on. -/
import Derived.Test.YtlbagckpmpdkiaaPure1
import Derived.Deep.Draws
import Derived.WalkSmall
import Derived.Test.YtlbagckpmpdkiaaRows
import Derived.WalkKit
import Derived.WalkSpells
import Derived.WalkLawsBesides
import Derived.Deep.QuietTactic
import Derived.BigQuiet
import Derived.Deep.CutRange
import Derived.Deep.DeepCutAuto
import Derived.Test.YtlbagckpmpdkiaaOwn
import Derived.Test.YtlbagckpmpdkiaaWalks1
import Derived.Test.YtlbagckpmpdkiaaRegionD
namespace Go.Proofs.Ytlbagckpmpdkiaa
set_option linter.unusedSimpArgs false
set_option linter.unusedVariables false
set_option maxRecDepth 8000
open Go.RowKit

/-- A slice of n bytes, its cells known to be there, in a block below B. -/
def BytesB (w : World) (B : Nat) (v : Value) (n : Nat) : Prop :=
  (n = 0 ∧ ∃ a c, v = .slice a 0 c) ∨
  (0 < n ∧ ∃ b off cap, n ≤ cap ∧ cap ≤ maxLen ∧ v = .slice (some ⟨b, off, none⟩) n cap ∧ b < B ∧ b < w.heap.size ∧ ∀ i, i < n → ∃ z : Int, 0 ≤ z ∧ z ≤ 255 ∧ w.cell? ⟨b, off + i, none⟩ = some (.int .u8 z))

/-- Block r holds a reader: its code, and how far it is (at most P). -/
def Rd (w : World) (r : Nat) (P : Int) : Prop :=
  ∃ v n p, n ≤ 2000 ∧ 0 ≤ p ∧ p ≤ P ∧ r < w.heap.size ∧ w.cell? ⟨r, 0, none⟩ = some v ∧ w.cell? ⟨r, 1, none⟩ = some (.int .i64 p) ∧ w.frozen? ⟨r, 1, none⟩ = false ∧ BytesB w r v n

theorem Rd.mono {w : World} {r : Nat} {P Q : Int} (h : Rd w r P) (hq : P ≤ Q) : Rd w r Q := by
  obtain ⟨v, n, p, h1, h2, h3, h4⟩ := h
  exact ⟨v, n, p, h1, h2, by omega, h4⟩
theorem Rd.lt {w : World} {r : Nat} {P : Int} (h : Rd w r P) : r < w.heap.size := by
  obtain ⟨v, n, p, h1, h2, h3, h4, _⟩ := h
  exact h4

theorem BytesB.keep {w w' : World} {B : Nat} {v : Value} {n : Nat} (h : BytesB w B v n) (hs : w.heap.size ≤ w'.heap.size) (hk : ∀ k, k < B → w'.heap[k]? = w.heap[k]?) : BytesB w' B v n := by
  rcases h with h | ⟨h0, b, off, cap, h1, h2, h3, h4, h5, h6⟩
  · exact Or.inl h
  · refine Or.inr ⟨h0, b, off, cap, h1, h2, h3, h4, by omega, fun i hi => ?_⟩
    obtain ⟨z, z0, z1, hz⟩ := h6 i hi
    exact ⟨z, z0, z1, by rw [World.cell?_of_block (w := w) (hk b h4), hz]⟩

/-- Nothing up to the reader's block has turned: it reads on. -/
theorem Rd.keep {w w' : World} {r : Nat} {P : Int} (h : Rd w r P) (hb : Below (r + 1) w w') : Rd w' r P := by
  obtain ⟨v, n, p, h1, h2, h3, h4, h5, h6, h7, h8⟩ := h
  refine ⟨v, n, p, h1, h2, h3, by have := hb.size; omega, ?_, ?_, ?_, h8.keep hb.size fun k hk => hb.block k (by omega)⟩
  · rw [World.cell?_of_block (w := w) (hb.block r (by omega)), h5]
  · rw [World.cell?_of_block (w := w) (hb.block r (by omega)), h6]
  · rw [World.frozen?_of_block (w := w) (hb.block r (by omega)), h7]

theorem Rd.below {w w' : World} {r : Nat} {P : Int} (h : Rd w r P) (hb : Below w.heap.size w w') : Rd w' r P := h.keep (hb.mono h.lt)

/-- But for block r nothing that was there has turned. -/
structure ButR (r : Nat) (w w' : World) : Prop where
  os : w'.os = w.os
  tape : w'.tape = w.tape
  output : w'.output = w.output
  size : w.heap.size ≤ w'.heap.size
  block : ∀ k, k < w.heap.size → k ≠ r → w'.heap[k]? = w.heap[k]?

theorem ButR.refl (r : Nat) (w : World) : ButR r w w := ⟨rfl, rfl, rfl, Nat.le_refl _, fun _ _ _ => rfl⟩
theorem ButR.trans {r : Nat} {a b c : World} (h : ButR r a b) (k : ButR r b c) : ButR r a c :=
  ⟨k.os.trans h.os, k.tape.trans h.tape, k.output.trans h.output, Nat.le_trans h.size k.size, fun i hi hr => (k.block i (Nat.lt_of_lt_of_le hi h.size) hr).trans (h.block i hi hr)⟩
theorem ButR.of_below {r : Nat} {w w' : World} (h : Below w.heap.size w w') : ButR r w w' := ⟨h.os, h.tape, h.output, h.size, fun k hk _ => h.block k hk⟩
theorem ButR.alloc {r : Nat} {w w' : World} (h : ButR r w w') (o : Obj) : ButR r w (w'.alloc o) := h.trans (.of_below ((Below.refl _ _).alloc (Nat.le_refl _) _))
theorem ButR.drewN {r : Nat} {w w' : World} (h : ButR r w w') (n : Nat) : ButR r w (w'.drewN n) := ⟨h.os, h.tape, h.output, h.size, h.block⟩
theorem ButR.setCell {r : Nat} {w w' : World} (h : ButR r w w') {p : Addr} (hp : w.heap.size ≤ p.block ∨ p.block = r) (u : Value) : ButR r w (w'.setCell p u) :=
  ⟨h.os, h.tape, h.output, by simpa [World.setCell] using h.size, fun k hk hr => by rw [Below.heap_setCell _ _ _ _ (by omega)]; exact h.block k hk hr⟩
theorem ButR.cells {r : Nat} {w w' : World} (h : ButR r w w') : (∀ b o, b < w.heap.size → b ≠ r → w'.cell? ⟨b, o, none⟩ = w.cell? ⟨b, o, none⟩) ∧ (∀ b o, b < w.heap.size → b ≠ r → w'.frozen? ⟨b, o, none⟩ = w.frozen? ⟨b, o, none⟩) :=
  ⟨fun b _ h1 h2 => World.cell?_of_block (w := w) (h.block b h1 h2), fun b _ h1 h2 => World.frozen?_of_block (w := w) (h.block b h1 h2)⟩
/-- Behind the reader's birth nothing older has turned. -/
theorem ButR.below {r : Nat} {w0 w w' : World} (h0 : Below w0.heap.size w0 w) (h : ButR r w w') (hr : w0.heap.size ≤ r) : Below w0.heap.size w0 w' :=
  ⟨h.os.trans h0.os, h.tape.trans h0.tape, h.output.trans h0.output, Nat.le_trans h0.size h.size, fun k hk => (h.block k (Nat.lt_of_lt_of_le hk h0.size) (by omega)).trans (h0.block k hk)⟩

/-- What a pick leaves. -/
def Picked (n : Int) (r : Nat) (P : Int) (w : World) (e : Ending) (w' : World) : Prop := ∃ x : Int, 0 ≤ x ∧ x < n ∧ e = .returned (.int .i64 x) ∧ Rd w' r (P + 1) ∧ ButR r w w'

theorem Rd.moved {w : World} {r : Nat} {v : Value} {n : Nat} {p P : Int} (k : Nat) (h1 : n ≤ 2000) (h2 : 0 ≤ p) (h3 : p ≤ P) (h4 : r < w.heap.size) (h5 : w.cell? ⟨r, 0, none⟩ = some v) (h6 : w.cell? ⟨r, 1, none⟩ = some (.int .i64 p)) (h7 : w.frozen? ⟨r, 1, none⟩ = false) (h8 : BytesB w r v n) :
    Rd ((w.setCell ⟨r, 1, none⟩ (.int .i64 (p + 1))).drewN k) r (P + 1) ∧ ButR r w ((w.setCell ⟨r, 1, none⟩ (.int .i64 (p + 1))).drewN k) := by
  refine ⟨⟨v, n, p + 1, h1, by omega, by omega, by simpa [World.setCell] using h4, ?_, ?_, ?_, ?_⟩, ((ButR.refl r w).setCell (Or.inr rfl) _).drewN k⟩
  · rw [World.cell?_drewN, World.cell?_setCell_other w ⟨r, 1, none⟩ ⟨r, 0, none⟩ _ (by simp)]; exact h5
  · rw [World.cell?_drewN]; exact World.cell?_setCell_same _ _ _ h6
  · rw [World.frozen?_drewN]; simp [h7]
  · exact h8.keep (by simp [World.setCell]) fun j hj => by rw [World.heap_drewN, Below.heap_setCell _ _ _ _ (by simp; omega)]

/- pick and odd: the reader of a code moves on, and what it answers is in range. -/
open Go.RowKit

theorem tmod_nat {a : Int} {len : Nat} (ha : 0 ≤ a) (hl : 0 < len) : ∃ m : Nat, m < len ∧ a.tmod len = m := by
  have h1 := Int.emod_nonneg a (b := (len : Int)) (by omega)
  have h2 := Int.emod_lt_of_pos a (b := (len : Int)) (by omega)
  refine ⟨(a % len).toNat, by omega, ?_⟩
  rw [Int.tmod_eq_emod_of_nonneg ha]
  omega
theorem tdiv_small {a : Int} {len : Nat} (ha : 0 ≤ a) (hl : 0 < len) : ∃ q : Int, 0 ≤ q ∧ q ≤ a ∧ a.tdiv len = q := by
  refine ⟨a / len, Int.ediv_nonneg ha (by omega), Int.ediv_le_self _ ha, ?_⟩
  rw [Int.tdiv_eq_ediv_of_nonneg ha]

theorem xor_i64_nat (a b : Nat) (ha : a < 2 ^ 62) (hb : b < 2 ^ 62) : bits .xor .i64 (a : Int) (b : Int) = ((a ^^^ b : Nat) : Int) := by
  have hx : a ^^^ b < 2 ^ 62 := Nat.xor_lt_two_pow ha hb
  have ha' : a % 2 ^ IntKind.i64.bits = a := Nat.mod_eq_of_lt (by simp only [IntKind.bits]; omega)
  have hb' : b % 2 ^ IntKind.i64.bits = b := Nat.mod_eq_of_lt (by simp only [IntKind.bits]; omega)
  simp only [bits, BitVec.ofInt_natCast, BitVec.toNat_xor, BitVec.toNat_ofNat, ha', hb']
  rw [IntKind.wrap_i64]
  omega
theorem xor_i64 {a b : Int} (a0 : 0 ≤ a) (a1 : a ≤ 1000000000) (b0 : 0 ≤ b) (b1 : b ≤ 1000000000) : 0 ≤ bits .xor .i64 a b := by
  obtain ⟨m, rfl⟩ : ∃ m : Nat, a = m := ⟨a.toNat, by omega⟩
  obtain ⟨n, rfl⟩ : ∃ n : Nat, b = n := ⟨b.toNat, by omega⟩
  rw [xor_i64_nat m n (by omega) (by omega)]
  exact Int.natCast_nonneg _

/-- What odd leaves. -/
def Odd (r : Nat) (P : Int) (w : World) (e : Ending) (w' : World) : Prop := ∃ x : Bool, e = .returned (.bool x) ∧ Rd w' r (P + 1) ∧ ButR r w w'

/- l20Open and l20Pitch: a reader is opened; a pitch is drawn, its numbers in range. -/
open Go.RowKit

/-- What opening leaves. -/
def Opened (w : World) (e : Ending) (w' : World) : Prop := ∃ r : Nat, w.heap.size ≤ r ∧ e = .returned (.pointer (some ⟨r, 0, none⟩)) ∧ Rd w' r 0 ∧ Below w.heap.size w w'

theorem Opened.mk {w : World} {v : Value} {n : Nat} {t : TypeId} (hn : n ≤ 2000) (h : BytesB w w.heap.size v n) : Opened w (.returned (.pointer (some ⟨w.heap.size, 0, none⟩))) (w.alloc (.cells #[v, .int .i64 0] t)) := by
  refine ⟨w.heap.size, Nat.le_refl _, rfl, ⟨v, n, 0, hn, by omega, by omega, by simp, by simp, by simp, World.frozen?_alloc_at _ _ _ _ (by simp), ?_⟩, below1 _⟩
  exact h.keep (by simp) fun k hk => Below.heap_alloc _ _ _ hk

/-- A pitch in a block of its own, in range; and what of the call's memory is known beside it. -/
def LP (w0 : World) (r q : Nat) (P : Int) (W : World) : Prop :=
  Rd W r P ∧ ButR r w0 W ∧ w0.heap.size < q ∧ q < W.heap.size ∧ (W.frozen? ⟨w0.heap.size, 0, none⟩ = false ∧ W.frozen? ⟨w0.heap.size, 1, none⟩ = false ∧ W.frozen? ⟨w0.heap.size, 2, none⟩ = false) ∧
  (∃ x y z, W.cell? ⟨w0.heap.size, 0, none⟩ = some x ∧ W.cell? ⟨w0.heap.size, 1, none⟩ = some y ∧ W.cell? ⟨w0.heap.size, 2, none⟩ = some z) ∧
  (W.frozen? ⟨q, 0, none⟩ = false ∧ W.frozen? ⟨q, 1, none⟩ = false ∧ W.frozen? ⟨q, 2, none⟩ = false) ∧
  ∃ s a o : Int, (-1 ≤ s ∧ s ≤ 7) ∧ (-3 ≤ a ∧ a ≤ 3) ∧ (-1 ≤ o ∧ o ≤ 9) ∧ W.cell? ⟨q, 0, none⟩ = some (.int .i64 s) ∧ W.cell? ⟨q, 1, none⟩ = some (.int .i64 a) ∧ W.cell? ⟨q, 2, none⟩ = some (.int .i64 o)

theorem LP.picked {w0 W W' : World} {r q : Nat} {P Q : Int} (h : LP w0 r q P W) (hr : Rd W' r Q) (hb : ButR r W W') (hr0 : r < w0.heap.size) : LP w0 r q Q W' := by
  obtain ⟨h1, h2, h3, h4, ⟨f0, f1, f2⟩, ⟨x, y, z, c0, c1, c2⟩, ⟨g0, g1, g2⟩, s, a, o, hs, ha, ho, d0, d1, d2⟩ := h
  obtain ⟨hc, hf⟩ := hb.cells
  have n0 : w0.heap.size < W.heap.size := by omega
  refine ⟨hr, h2.trans hb, h3, by have := hb.size; omega, ⟨?_, ?_, ?_⟩, ⟨x, y, z, ?_, ?_, ?_⟩, ⟨?_, ?_, ?_⟩, s, a, o, hs, ha, ho, ?_, ?_, ?_⟩
  · rw [hf _ _ n0 (by omega), f0]
  · rw [hf _ _ n0 (by omega), f1]
  · rw [hf _ _ n0 (by omega), f2]
  · rw [hc _ _ n0 (by omega), c0]
  · rw [hc _ _ n0 (by omega), c1]
  · rw [hc _ _ n0 (by omega), c2]
  · rw [hf _ _ h4 (by omega), g0]
  · rw [hf _ _ h4 (by omega), g1]
  · rw [hf _ _ h4 (by omega), g2]
  · rw [hc _ _ h4 (by omega), d0]
  · rw [hc _ _ h4 (by omega), d1]
  · rw [hc _ _ h4 (by omega), d2]

theorem LP.alloc {w0 W : World} {r q : Nat} {P : Int} (h : LP w0 r q P W) (hr0 : r < w0.heap.size) (o : Obj) : LP w0 r q P (W.alloc o) :=
  h.picked (h.1.below (below1 o)) (.of_below (below1 o)) hr0

/-- One of the pitch's numbers is set anew. -/
theorem LP.set {w0 W : World} {r q : Nat} {P : Int} (h : LP w0 r q P W) (hr0 : r < w0.heap.size) (i : Nat) (x : Int) (hi : (i = 0 ∧ -1 ≤ x ∧ x ≤ 7) ∨ (i = 1 ∧ -3 ≤ x ∧ x ≤ 3) ∨ (i = 2 ∧ -1 ≤ x ∧ x ≤ 9)) :
    LP w0 r q P (W.setCell ⟨q, i, none⟩ (.int .i64 x)) := by
  obtain ⟨h1, h2, h3, h4, ⟨f0, f1, f2⟩, ⟨u, y, z, c0, c1, c2⟩, ⟨g0, g1, g2⟩, s, a, o, hs, ha, ho, d0, d1, d2⟩ := h
  have hR : Rd (W.setCell ⟨q, i, none⟩ (.int .i64 x)) r P := h1.keep ((Below.refl _ _).setCell (by show r + 1 ≤ q; omega) _)
  refine ⟨hR, h2.setCell (Or.inl (by show w0.heap.size ≤ q; omega)) _, h3, by simpa using h4, ⟨?_, ?_, ?_⟩, ⟨u, y, z, ?_, ?_, ?_⟩, ⟨?_, ?_, ?_⟩, ?_⟩
  · simpa using f0
  · simpa using f1
  · simpa using f2
  · rw [World.cell?_setCell_other W ⟨q, i, none⟩ _ _ (fun e => by have e2 := congrArg Addr.block e; simp at e2; omega), c0]
  · rw [World.cell?_setCell_other W ⟨q, i, none⟩ _ _ (fun e => by have e2 := congrArg Addr.block e; simp at e2; omega), c1]
  · rw [World.cell?_setCell_other W ⟨q, i, none⟩ _ _ (fun e => by have e2 := congrArg Addr.block e; simp at e2; omega), c2]
  · simpa using g0
  · simpa using g1
  · simpa using g2
  · rcases hi with ⟨rfl, b0, b1⟩ | ⟨rfl, b0, b1⟩ | ⟨rfl, b0, b1⟩
    · exact ⟨x, a, o, ⟨b0, b1⟩, ha, ho, World.cell?_setCell_same _ _ _ d0, by rw [World.cell?_setCell_other W ⟨q, 0, none⟩ _ _ (by simp), d1], by rw [World.cell?_setCell_other W ⟨q, 0, none⟩ _ _ (by simp), d2]⟩
    · exact ⟨s, x, o, hs, ⟨b0, b1⟩, ho, by rw [World.cell?_setCell_other W ⟨q, 1, none⟩ _ _ (by simp), d0], World.cell?_setCell_same _ _ _ d1, by rw [World.cell?_setCell_other W ⟨q, 1, none⟩ _ _ (by simp), d2]⟩
    · exact ⟨s, a, x, hs, ha, ⟨b0, b1⟩, by rw [World.cell?_setCell_other W ⟨q, 2, none⟩ _ _ (by simp), d0], by rw [World.cell?_setCell_other W ⟨q, 2, none⟩ _ _ (by simp), d1], World.cell?_setCell_same _ _ _ d2⟩

/-- The pitch's block is laid behind two picks. -/
theorem LP.start {w0 W : World} {r : Nat} {P s o : Int} {t t' : TypeId} (hr : Rd W r P) (hb : ButR r (w0.alloc (.cells #[.int .i64 0, .int .i64 0, .int .i64 0] t)) W) (hr0 : r < w0.heap.size) (hs : -1 ≤ s ∧ s ≤ 7) (ho : -1 ≤ o ∧ o ≤ 9) :
    LP w0 r W.heap.size P (W.alloc (.cells #[.int .i64 s, .int .i64 0, .int .i64 o] t')) := by
  have hz := hb.size
  simp at hz
  obtain ⟨hc, hf⟩ := hb.cells
  have n0 : w0.heap.size < (w0.alloc (.cells #[.int .i64 0, .int .i64 0, .int .i64 0] t)).heap.size := by simp
  refine ⟨hr.below (below1 _), (((ButR.refl r w0).alloc _).trans hb).alloc _, by omega, by simp, ⟨?_, ?_, ?_⟩, ⟨.int .i64 0, .int .i64 0, .int .i64 0, ?_, ?_, ?_⟩, ⟨World.frozen?_alloc_at _ _ _ _ rfl, World.frozen?_alloc_at _ _ _ _ rfl, World.frozen?_alloc_at _ _ _ _ rfl⟩, s, 0, o, hs, by omega, ho, by simp, by simp, by simp⟩
  · rw [((Below.refl W.heap.size W).alloc (Nat.le_refl _) _).frozen (p := ⟨w0.heap.size, 0, none⟩) (by show w0.heap.size < _; omega), hf _ _ n0 (by omega)]; exact World.frozen?_alloc_at _ _ _ _ rfl
  · rw [((Below.refl W.heap.size W).alloc (Nat.le_refl _) _).frozen (p := ⟨w0.heap.size, 1, none⟩) (by show w0.heap.size < _; omega), hf _ _ n0 (by omega)]; exact World.frozen?_alloc_at _ _ _ _ rfl
  · rw [((Below.refl W.heap.size W).alloc (Nat.le_refl _) _).frozen (p := ⟨w0.heap.size, 2, none⟩) (by show w0.heap.size < _; omega), hf _ _ n0 (by omega)]; exact World.frozen?_alloc_at _ _ _ _ rfl
  · rw [World.cell?_alloc_lt W _ _ (by show w0.heap.size < _; omega), hc _ _ n0 (by omega)]; simp
  · rw [World.cell?_alloc_lt W _ _ (by show w0.heap.size < _; omega), hc _ _ n0 (by omega)]; simp
  · rw [World.cell?_alloc_lt W _ _ (by show w0.heap.size < _; omega), hc _ _ n0 (by omega)]; simp

/-- One of two, by a number. -/
def sel (x a b : Int) : Int := if x = 0 then a else b
theorem sel_or (x a b : Int) : sel x a b = a ∨ sel x a b = b := by unfold sel; split <;> simp
theorem pair_at {W W' : World} {r : Nat} {a b x : Int} {t : TypeId} (hb : ButR r (W.alloc (.cells #[.int .i64 a, .int .i64 b] t)) W') (hr : r < W.heap.size) (x0 : 0 ≤ x) (x1 : x < 2) :
    W'.cell? ⟨W.heap.size, x.toNat, none⟩ = some (.int .i64 (sel x a b)) := by
  obtain ⟨hc, _⟩ := hb.cells
  rw [hc _ _ (by simp) (by omega)]
  rcases (show x = 0 ∨ x = 1 by omega) with rfl | rfl <;> simp [sel]

theorem LP.mono {w0 W : World} {r q : Nat} {P Q : Int} (h : LP w0 r q P W) (hq : P ≤ Q) : LP w0 r q Q W := ⟨h.1.mono hq, h.2⟩

theorem LP.done {w0 W : World} {r q : Nat} {P Q : Int} (h : LP w0 r q P W) (hr0 : r < w0.heap.size) (hq : P ≤ Q) (x y z : Value) :
    Rd (((W.setCell ⟨w0.heap.size, 0, none⟩ x).setCell ⟨w0.heap.size, 1, none⟩ y).setCell ⟨w0.heap.size, 2, none⟩ z) r Q ∧ ButR r w0 (((W.setCell ⟨w0.heap.size, 0, none⟩ x).setCell ⟨w0.heap.size, 1, none⟩ y).setCell ⟨w0.heap.size, 2, none⟩ z) :=
  ⟨(h.1.keep ((((Below.refl _ _).setCell (by show r + 1 ≤ w0.heap.size; omega) _).setCell (by show r + 1 ≤ w0.heap.size; omega) _).setCell (by show r + 1 ≤ w0.heap.size; omega) _)).mono hq,
   ((h.2.1.setCell (Or.inl (Nat.le_refl _)) _).setCell (Or.inl (Nat.le_refl _)) _).setCell (Or.inl (Nat.le_refl _)) _⟩

/-- What drawing a pitch leaves. -/
def Drew (r : Nat) (P : Int) (w : World) (e : Ending) (w' : World) : Prop :=
  ∃ s a o : Int, (-1 ≤ s ∧ s ≤ 7) ∧ (-3 ≤ a ∧ a ≤ 3) ∧ (-1 ≤ o ∧ o ≤ 9) ∧ e = .returned (.agg #[.int .i64 s, .int .i64 a, .int .i64 o]) ∧ Rd w' r (P + 20) ∧ ButR r w w'

/- What a call owns that draws from a reader: the reader's block moves on, nothing else that was there turns. -/
open Go.RowKit

theorem XStab.rd {r : Nat} {P : Int} : XStab fun w => Rd w r P := fun _ _ h hb => h.below hb

theorem Stab.but {r : Nat} {w0 : World} (hr : r < w0.heap.size) : Stab w0.heap.size (ButR r w0) :=
  ⟨fun _ h => h.size, fun _ _ _ h hg hr => ⟨hg.os.trans h.os, hg.tape.trans h.tape, hg.output.trans h.output, Nat.le_trans h.size hg.size, fun k hk hkr =>
    (hg.block k (Nat.lt_of_lt_of_le hk h.size) (fun e => by have := (hr k e.symm).1; omega)).trans (h.block k hk hkr)⟩⟩

/-- The base of a call that draws: nothing but block r has turned, and it holds a reader that is at most P on. -/
def Bd (r : Nat) (w0 : World) (P : Int) (w : World) : Prop := ButR r w0 w ∧ Rd w r P
theorem Stab.bd {r : Nat} {w0 : World} {P : Int} (hr : r < w0.heap.size) : Stab w0.heap.size (Bd r w0 P) :=
  ⟨fun _ h => h.1.size, fun w w' q h hg hq => ⟨(Stab.but hr).grown w w' q h.1 hg hq, h.2.keep ⟨hg.os, hg.tape, hg.output, hg.size, fun k hk =>
    hg.block k (Nat.lt_of_lt_of_le (show k < w0.heap.size by omega) h.1.size) (fun e => by have := (hq k e.symm).1; omega)⟩⟩⟩
theorem Own.startD {w0 : World} {r : Nat} {P : Int} (h : Rd w0 r P) : Own w0.heap.size (Bd r w0 P) w0 [] := ⟨Stab.bd h.lt, ButR.refl _ _, h⟩

/-- The reader has moved on: what is owned is as it was. -/
theorem ButR.grown {r : Nat} {w w' : World} (h : ButR r w w') : w.grownBy w' (some r) := ⟨h.os, h.tape, h.output, h.size, fun k hk hr => h.block k hk (fun e => hr (by rw [e]))⟩
theorem Own.but {n r : Nat} {B B' : World → Prop} {w w' : World} (hr : r < n) (hs : Stab n B') (hB : B' w') (hb : ButR r w w') : ∀ {L : List Item}, Own n B w L → Own n B' w' L
  | [], _ => ⟨hs, hB⟩
  | _ :: _, ⟨⟨h1, h2⟩, h3⟩ => ⟨⟨h1.grown hb.grown fun g hg e => by cases e; have := (h1.lt _ hg).1; omega, h2⟩, h3.but hr hs hB hb⟩
/-- The base turned for another that holds, too. -/
theorem Own.rebase {n : Nat} {B B' : World → Prop} {w : World} (hs : Stab n B') (hB : B w → B' w) : ∀ {L : List Item}, Own n B w L → Own n B' w L
  | [], h => ⟨hs, hB h.2⟩
  | _ :: _, h => ⟨h.1, h.2.rebase hs hB⟩
theorem Own.mono {r : Nat} {w0 w : World} {P Q : Int} {L : List Item} (h : Own w0.heap.size (Bd r w0 P) w L) (hr : r < w0.heap.size) (hq : P ≤ Q) : Own w0.heap.size (Bd r w0 Q) w L :=
  h.rebase (Stab.bd hr) fun h => ⟨h.1, h.2.mono hq⟩

/-- A reader that was made by the call moves on: what else is owned is as it was. -/
theorem Own.drawn {r : Nat} {w0 w w' : World} (hb : ButR r w w') (hr : w0.heap.size ≤ r) : ∀ {L : List Item}, (∀ x ∈ L, x.at? ≠ some r) → Own w0.heap.size (Below w0.heap.size w0) w L → Own w0.heap.size (Below w0.heap.size w0) w' L
  | [], _, h => ⟨h.1, hb.below h.2 hr⟩
  | it :: L, hL, ⟨⟨h1, h2⟩, h3⟩ => ⟨⟨h1.grown hb.grown fun g hg e => hL it (by simp) (by rw [hg, e]), h2⟩, h3.drawn hb hr (fun x hx => hL x (List.mem_cons_of_mem _ hx))⟩
theorem Own.ne_of {n r : Nat} {B : World → Prop} {w : World} {L : List Item} (h : Own n B w L) (hr : w.heap.size ≤ r) : ∀ x ∈ L, x.at? ≠ some r := fun x hx e => by have := (h.lt x hx r e).2; omega

/- l20Way: an interval is drawn. -/
open Go.RowKit

/-- An interval in a block of its own; and what of the call's memory is known beside it. -/
def LW (w0 : World) (r q : Nat) (P B : Int) (W : World) : Prop :=
  Rd W r P ∧ ButR r w0 W ∧ w0.heap.size < q ∧ q < W.heap.size ∧ (W.frozen? ⟨w0.heap.size, 0, none⟩ = false ∧ W.frozen? ⟨w0.heap.size, 1, none⟩ = false) ∧
  (∃ x y, W.cell? ⟨w0.heap.size, 0, none⟩ = some x ∧ W.cell? ⟨w0.heap.size, 1, none⟩ = some y) ∧
  (W.frozen? ⟨q, 0, none⟩ = false ∧ W.frozen? ⟨q, 1, none⟩ = false) ∧
  ∃ st ha : Int, (-100 ≤ st ∧ st ≤ 100) ∧ (-B ≤ ha ∧ ha ≤ B) ∧ W.cell? ⟨q, 0, none⟩ = some (.int .i64 st) ∧ W.cell? ⟨q, 1, none⟩ = some (.int .i64 ha)

theorem LW.picked {w0 W W' : World} {r q : Nat} {P Q B : Int} (h : LW w0 r q P B W) (hr : Rd W' r Q) (hb : ButR r W W') (hr0 : r < w0.heap.size) : LW w0 r q Q B W' := by
  obtain ⟨h1, h2, h3, h4, ⟨f0, f1⟩, ⟨x, y, c0, c1⟩, ⟨g0, g1⟩, s, a, hs, ha, d0, d1⟩ := h
  obtain ⟨hc, hf⟩ := hb.cells
  have n0 : w0.heap.size < W.heap.size := by omega
  refine ⟨hr, h2.trans hb, h3, by have := hb.size; omega, ⟨?_, ?_⟩, ⟨x, y, ?_, ?_⟩, ⟨?_, ?_⟩, s, a, hs, ha, ?_, ?_⟩
  · rw [hf _ _ n0 (by omega), f0]
  · rw [hf _ _ n0 (by omega), f1]
  · rw [hc _ _ n0 (by omega), c0]
  · rw [hc _ _ n0 (by omega), c1]
  · rw [hf _ _ h4 (by omega), g0]
  · rw [hf _ _ h4 (by omega), g1]
  · rw [hc _ _ h4 (by omega), d0]
  · rw [hc _ _ h4 (by omega), d1]

theorem LW.alloc {w0 W : World} {r q : Nat} {P B : Int} (h : LW w0 r q P B W) (hr0 : r < w0.heap.size) (o : Obj) : LW w0 r q P B (W.alloc o) :=
  h.picked (h.1.below (below1 o)) (.of_below (below1 o)) hr0
theorem LW.drew {w0 W : World} {r q : Nat} {P B : Int} (h : LW w0 r q P B W) (hr0 : r < w0.heap.size) : LW w0 r q P B W.drew :=
  h.picked (h.1.below (below_drew1 _)) (.of_below (below_drew1 _)) hr0

/-- One of the interval's numbers is set anew. -/
theorem LW.set {w0 W : World} {r q : Nat} {P B C : Int} (h : LW w0 r q P B W) (hr0 : r < w0.heap.size) (hB : B ≤ C) (i : Nat) (x : Int) (hi : (i = 0 ∧ -100 ≤ x ∧ x ≤ 100) ∨ (i = 1 ∧ -C ≤ x ∧ x ≤ C)) :
    LW w0 r q P C (W.setCell ⟨q, i, none⟩ (.int .i64 x)) := by
  obtain ⟨h1, h2, h3, h4, ⟨f0, f1⟩, ⟨u, y, c0, c1⟩, ⟨g0, g1⟩, s, a, hs, ha, d0, d1⟩ := h
  have hR : Rd (W.setCell ⟨q, i, none⟩ (.int .i64 x)) r P := h1.keep ((Below.refl _ _).setCell (by show r + 1 ≤ q; omega) _)
  refine ⟨hR, h2.setCell (Or.inl (by show w0.heap.size ≤ q; omega)) _, h3, by simpa using h4, ⟨?_, ?_⟩, ⟨u, y, ?_, ?_⟩, ⟨?_, ?_⟩, ?_⟩
  · simpa using f0
  · simpa using f1
  · rw [World.cell?_setCell_other W ⟨q, i, none⟩ _ _ (fun e => by have e2 := congrArg Addr.block e; simp at e2; omega), c0]
  · rw [World.cell?_setCell_other W ⟨q, i, none⟩ _ _ (fun e => by have e2 := congrArg Addr.block e; simp at e2; omega), c1]
  · simpa using g0
  · simpa using g1
  · rcases hi with ⟨rfl, b0, b1⟩ | ⟨rfl, b0, b1⟩
    · exact ⟨x, a, ⟨b0, b1⟩, by omega, World.cell?_setCell_same _ _ _ d0, by rw [World.cell?_setCell_other W ⟨q, 0, none⟩ _ _ (by simp), d1]⟩
    · exact ⟨s, x, hs, ⟨b0, b1⟩, by rw [World.cell?_setCell_other W ⟨q, 1, none⟩ _ _ (by simp), d0], World.cell?_setCell_same _ _ _ d1⟩

theorem LW.mono {w0 W : World} {r q : Nat} {P Q B C : Int} (h : LW w0 r q P B W) (hq : P ≤ Q) (hB : B ≤ C) : LW w0 r q Q C W := by
  obtain ⟨h1, h2, h3, h4, h5, h6, h7, s, a, hs, ha, d0, d1⟩ := h
  exact ⟨h1.mono hq, h2, h3, h4, h5, h6, h7, s, a, hs, by omega, d0, d1⟩

/-- The interval's block is laid. -/
theorem LW.start {w0 W : World} {r : Nat} {P st ha B : Int} {t t' : TypeId} (hr : Rd W r P) (hb : ButR r (w0.alloc (.cells #[.int .i64 0, .int .i64 0] t)) W) (hr0 : r < w0.heap.size) (hs : -100 ≤ st ∧ st ≤ 100) (ho : -B ≤ ha ∧ ha ≤ B) :
    LW w0 r W.heap.size P B (W.alloc (.cells #[.int .i64 st, .int .i64 ha] t')) := by
  have hz := hb.size
  simp at hz
  obtain ⟨hc, hf⟩ := hb.cells
  have n0 : w0.heap.size < (w0.alloc (.cells #[.int .i64 0, .int .i64 0] t)).heap.size := by simp
  refine ⟨hr.below (below1 _), (((ButR.refl r w0).alloc _).trans hb).alloc _, by omega, by simp, ⟨?_, ?_⟩, ⟨.int .i64 0, .int .i64 0, ?_, ?_⟩, ⟨World.frozen?_alloc_at _ _ _ _ rfl, World.frozen?_alloc_at _ _ _ _ rfl⟩, st, ha, hs, ho, by simp, by simp⟩
  · rw [((Below.refl W.heap.size W).alloc (Nat.le_refl _) _).frozen (p := ⟨w0.heap.size, 0, none⟩) (by show w0.heap.size < _; omega), hf _ _ n0 (by omega)]; exact World.frozen?_alloc_at _ _ _ _ rfl
  · rw [((Below.refl W.heap.size W).alloc (Nat.le_refl _) _).frozen (p := ⟨w0.heap.size, 1, none⟩) (by show w0.heap.size < _; omega), hf _ _ n0 (by omega)]; exact World.frozen?_alloc_at _ _ _ _ rfl
  · rw [World.cell?_alloc_lt W _ _ (by show w0.heap.size < _; omega), hc _ _ n0 (by omega)]; simp
  · rw [World.cell?_alloc_lt W _ _ (by show w0.heap.size < _; omega), hc _ _ n0 (by omega)]; simp

theorem LW.done {w0 W : World} {r q : Nat} {P Q B : Int} (h : LW w0 r q P B W) (hr0 : r < w0.heap.size) (hq : P ≤ Q) (x y : Value) :
    Rd ((W.setCell ⟨w0.heap.size, 0, none⟩ x).setCell ⟨w0.heap.size, 1, none⟩ y) r Q ∧ ButR r w0 ((W.setCell ⟨w0.heap.size, 0, none⟩ x).setCell ⟨w0.heap.size, 1, none⟩ y) :=
  ⟨(h.1.keep (((Below.refl _ _).setCell (by show r + 1 ≤ w0.heap.size; omega) _).setCell (by show r + 1 ≤ w0.heap.size; omega) _)).mono hq,
   (h.2.1.setCell (Or.inl (Nat.le_refl _)) _).setCell (Or.inl (Nat.le_refl _)) _⟩

/-- What drawing an interval leaves. -/
def DrewV (r : Nat) (P : Int) (w : World) (e : Ending) (w' : World) : Prop :=
  ∃ st ha : Int, (-100 ≤ st ∧ st ≤ 100) ∧ (-9223372036854775807 ≤ ha ∧ ha ≤ 9223372036854775807) ∧ e = .returned (.agg #[.int .i64 st, .int .i64 ha]) ∧ Rd w' r (P + 20) ∧ ButR r w w'

/-- One of six, by a number. -/
def six (x d : Int) : Int := if x = 3 then -1 else if x = 4 then 1 else if x = 5 then d else 0
theorem six_at {W W' : World} {r : Nat} {d x : Int} {t : TypeId} (hb : ButR r (W.alloc (.cells #[.int .i64 0, .int .i64 0, .int .i64 0, .int .i64 (-1), .int .i64 1, .int .i64 d] t)) W') (hr : r < W.heap.size) (x0 : 0 ≤ x) (x1 : x < 6) :
    W'.cell? ⟨W.heap.size, x.toNat, none⟩ = some (.int .i64 (six x d)) := by
  obtain ⟨hc, _⟩ := hb.cells
  rw [hc _ _ (by simp) (by omega)]
  rcases (show x = 0 ∨ x = 1 ∨ x = 2 ∨ x = 3 ∨ x = 4 ∨ x = 5 by omega) with rfl | rfl | rfl | rfl | rfl | rfl <;> simp [six]
theorem six_bd {x d : Int} (h : -3 ≤ d ∧ d ≤ 3) : -3 ≤ six x d ∧ six x d ≤ 3 := by unfold six; (repeat' split) <;> omega

/-- One of three, by a number. -/
def tri (x a b c : Int) : Int := if x = 0 then a else if x = 1 then b else c
theorem tri_at {W W' : World} {r : Nat} {a b c x : Int} {t : TypeId} (hb : ButR r (W.alloc (.cells #[.int .i64 a, .int .i64 b, .int .i64 c] t)) W') (hr : r < W.heap.size) (x0 : 0 ≤ x) (x1 : x < 3) :
    W'.cell? ⟨W.heap.size, x.toNat, none⟩ = some (.int .i64 (tri x a b c)) := by
  obtain ⟨hc, _⟩ := hb.cells
  rw [hc _ _ (by simp) (by omega)]
  rcases (show x = 0 ∨ x = 1 ∨ x = 2 by omega) with rfl | rfl | rfl <;> simp [tri]
theorem tri_bd (x : Int) : -9223372036854775807 ≤ tri x 61 (-61) 9223372036854775807 ∧ tri x 61 (-61) 9223372036854775807 ≤ 9223372036854775807 := by unfold tri; (repeat' split) <;> omega
theorem sel_at {W : World} {a b x : Int} {t : TypeId} (x0 : 0 ≤ x) (x1 : x < 2) : (W.alloc (.cells #[.int .i64 a, .int .i64 b] t)).cell? ⟨W.heap.size, x.toNat, none⟩ = some (.int .i64 (sel x a b)) := by
  rcases (show x = 0 ∨ x = 1 by omega) with rfl | rfl <;> simp [sel]
theorem sel_in {a b x : Int} (x0 : 0 ≤ x) (x1 : x < 2) : (#[Value.int .i64 a, Value.int .i64 b] : Array Value)[x.toNat]? = some (.int .i64 (sel x a b)) := by
  rcases (show x = 0 ∨ x = 1 by omega) with rfl | rfl <;> simp [sel]

/-- To what the call owns, and back. -/
theorem LW.own {w0 W : World} {r q : Nat} {P C cx cy st ha : _} (h : LW w0 r q P C W) (hr0 : r < w0.heap.size) (c0 : W.cell? ⟨w0.heap.size, 0, none⟩ = some cx) (c1 : W.cell? ⟨w0.heap.size, 1, none⟩ = some cy) (d0 : W.cell? ⟨q, 0, none⟩ = some st) (d1 : W.cell? ⟨q, 1, none⟩ = some ha) :
    Own w0.heap.size (ButR r w0) W [.blk q [st, ha], .blk w0.heap.size [cx, cy]] := by
  obtain ⟨h1, h2, h3, h4, ⟨f0, f1⟩, _, ⟨g0, g1⟩, _⟩ := h
  refine ⟨⟨⟨⟨⟨d0, g0⟩, ⟨d1, g1⟩, trivial⟩, by omega, h4⟩, ?_⟩, ⟨⟨⟨⟨c0, f0⟩, ⟨c1, f1⟩, trivial⟩, Nat.le_refl _, by omega⟩, by simp⟩, Stab.but hr0, h2⟩
  intro x hx
  simp at hx
  subst hx
  exact ⟨by show w0.heap.size ≠ q; omega, by show q ≠ w0.heap.size; omega⟩
theorem LW.of_own {w0 W : World} {r q : Nat} {P C st ha : Int} {cx cy : Value} {L : List Item} (hO : Own w0.heap.size (ButR r w0) W L) (hR : Rd W r P) (hq : Item.blk q [.int .i64 st, .int .i64 ha] ∈ L) (h0 : Item.blk w0.heap.size [cx, cy] ∈ L) (hlt : w0.heap.size < q) (hs : -100 ≤ st ∧ st ≤ 100) (ho : -C ≤ ha ∧ ha ≤ C) :
    LW w0 r q P C W := by
  obtain ⟨⟨d0, g0⟩, ⟨d1, g1⟩, _⟩ := hO.cells hq
  obtain ⟨⟨c0, f0⟩, ⟨c1, f1⟩, _⟩ := hO.cells h0
  exact ⟨hR, hO.base, hlt, (hO.lt _ hq _ rfl).2, ⟨f0, f1⟩, ⟨cx, cy, c0, c1⟩, ⟨g0, g1⟩, st, ha, hs, ho, d0, d1⟩
/-- The chosen one of two, in whatever world owns the pair. -/
theorem Own.sel_at {n : Nat} {B : World → Prop} {w : World} {b : Nat} {x a c : Int} {L : List Item} (h : Own n B w L) (hm : Item.blk b [.int .i64 a, .int .i64 c] ∈ L) (x0 : 0 ≤ x) (x1 : x < 2) : w.cell? ⟨b, x.toNat, none⟩ = some (.int .i64 (sel x a c)) := by
  obtain ⟨⟨d0, _⟩, ⟨d1, _⟩, _⟩ := h.cells hm
  rcases (show x = 0 ∨ x = 1 by omega) with rfl | rfl
  · simpa [sel] using d0
  · simpa [sel] using d1

/- The functions that draw one pitch for a law of chapter 1; alive. -/
open Go.RowKit

theorem BytesB.alloc {w : World} {v : Value} {n : Nat} (h : BytesB w w.heap.size v n) (o : Obj) : BytesB (w.alloc o) (w.alloc o).heap.size v n := by
  rcases h with h | ⟨h0, b, off, cap, h1, h2, h3, h4, h5, h6⟩
  · exact Or.inl h
  · refine Or.inr ⟨h0, b, off, cap, h1, h2, h3, by simp; omega, by simp; omega, fun i hi => ?_⟩
    obtain ⟨z, z0, z1, hz⟩ := h6 i hi
    exact ⟨z, z0, z1, by rw [World.cell?_alloc_lt _ _ _ h5, hz]⟩

/-- A block of three zeros, laid before the reader was opened, stands as it was laid. -/
theorem zero3 {w w1 w2 : World} {r : Nat} {t : TypeId} (hb : Below (w.alloc (.cells #[.int .i64 0, .int .i64 0, .int .i64 0] t)).heap.size (w.alloc (.cells #[.int .i64 0, .int .i64 0, .int .i64 0] t)) w1)
    (hr : (w.alloc (.cells #[.int .i64 0, .int .i64 0, .int .i64 0] t)).heap.size ≤ r) (h2 : ButR r w1 w2) :
    (w2.cell? ⟨w.heap.size, 0, none⟩ = some (.int .i64 0) ∧ w2.cell? ⟨w.heap.size, 1, none⟩ = some (.int .i64 0) ∧ w2.cell? ⟨w.heap.size, 2, none⟩ = some (.int .i64 0)) ∧
    (w2.frozen? ⟨w.heap.size, 0, none⟩ = false ∧ w2.frozen? ⟨w.heap.size, 1, none⟩ = false ∧ w2.frozen? ⟨w.heap.size, 2, none⟩ = false) ∧ Below w.heap.size w w2 := by
  obtain ⟨c1, f1⟩ := bcell hb
  obtain ⟨c2, f2⟩ := h2.cells
  have hz := hb.size
  simp at hz hr
  have n1 : w.heap.size < (w.alloc (.cells #[.int .i64 0, .int .i64 0, .int .i64 0] t)).heap.size := by simp
  refine ⟨⟨?_, ?_, ?_⟩, ⟨?_, ?_, ?_⟩, h2.below (boxed1 hb) (by omega)⟩
  · rw [c2 _ _ (by omega) (by omega), c1 _ _ n1]; simp
  · rw [c2 _ _ (by omega) (by omega), c1 _ _ n1]; simp
  · rw [c2 _ _ (by omega) (by omega), c1 _ _ n1]; simp
  · rw [f2 _ _ (by omega) (by omega), f1 _ _ n1]; exact World.frozen?_alloc_at _ _ _ _ rfl
  · rw [f2 _ _ (by omega) (by omega), f1 _ _ n1]; exact World.frozen?_alloc_at _ _ _ _ rfl
  · rw [f2 _ _ (by omega) (by omega), f1 _ _ n1]; exact World.frozen?_alloc_at _ _ _ _ rfl

theorem below_set3 {w W : World} (h : Below w.heap.size w W) (x y z : Value) :
    Below w.heap.size w (((W.setCell ⟨w.heap.size, 0, none⟩ x).setCell ⟨w.heap.size, 1, none⟩ y).setCell ⟨w.heap.size, 2, none⟩ z) :=
  ((h.setCell (Nat.le_refl _) _).setCell (Nat.le_refl _) _).setCell (Nat.le_refl _) _

/-- What drawing a pitch for a law leaves. -/
def DrewP (w : World) (e : Ending) (w' : World) : Prop :=
  ∃ s a o : Int, (-1 ≤ s ∧ s ≤ 7) ∧ (-3 ≤ a ∧ a ≤ 3) ∧ (-1 ≤ o ∧ o ≤ 9) ∧ e = .returned (.agg #[.int .i64 s, .int .i64 a, .int .i64 o]) ∧ Below w.heap.size w w'

theorem key_57 : keyZ 5 0 4 = 57 := by decide

/- A pitch is drawn; one of a row of numbers that is owned. -/
open Go.RowKit

theorem Own.num_in {n : Nat} {B : World → Prop} {w : World} {b : Nat} {x lo hi : Int} {L : List Item} (us : List Int) (h : Own n B w L) (hm : Item.blk b (us.map (Value.int .i64)) ∈ L) (x0 : 0 ≤ x) (x1 : x < us.length) (hb : ∀ u ∈ us, lo ≤ u ∧ u ≤ hi) :
    ∃ u, (lo ≤ u ∧ u ≤ hi) ∧ w.cell? ⟨b, x.toNat, none⟩ = some (.int .i64 u) := by
  obtain ⟨u, hu, hc⟩ := h.int_some us hm x0 x1
  exact ⟨u, hb u hu, hc⟩
end Go.Proofs.Ytlbagckpmpdkiaa
