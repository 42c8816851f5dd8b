/- What the reader of a code is in memory; frames for calls that move it on. -/
import Derived.Test.YtcgcnkddgihkpaaDoorPure1
import Derived.Deep.Draws
import Derived.WalkSmall
import Derived.Test.YtcgcnkddgihkpaaDoorRows
import Derived.WalkKit
import Derived.WalkSpells
import Derived.WalkLawsBesides
import Derived.Deep.QuietTactic
import Derived.BigQuiet
import Derived.Deep.CutRange
import Derived.Deep.DeepCutAuto
import Derived.Test.YtcgcnkddgihkpaaDoorOwn
import Derived.Test.YtcgcnkddgihkpaaDoorWalks1
import Derived.Test.YtcgcnkddgihkpaaDoorRegionD
namespace Go.Proofs.YtcgcnkddgihkpaaDoor
set_option linter.unusedSimpArgs false
set_option linter.unusedVariables false
set_option maxRecDepth 8000
open Go.RowKit

/-- A slice of n bytes, its cells known to be there, in a block below B. -/
def BytesB (w : World) (B : Nat) (v : Value) (n : Nat) : Prop :=
  (n = 0 ∧ ∃ a c, v = .slice a 0 c) ∨
  (0 < n ∧ ∃ b off cap, n ≤ cap ∧ cap ≤ maxLen ∧ v = .slice (some ⟨b, off, none⟩) n cap ∧ b < B ∧ b < w.heap.size ∧ ∀ i, i < n → ∃ z : Int, 0 ≤ z ∧ z ≤ 255 ∧ w.cell? ⟨b, off + i, none⟩ = some (.int .u8 z))

/-- Block r holds a reader: its code, and how far it is (at most P). -/
def Rd (w : World) (r : Nat) (P : Int) : Prop :=
  ∃ v n p, n ≤ 2000 ∧ 0 ≤ p ∧ p ≤ P ∧ r < w.heap.size ∧ w.cell? ⟨r, 0, none⟩ = some v ∧ w.cell? ⟨r, 1, none⟩ = some (.int .i64 p) ∧ w.frozen? ⟨r, 1, none⟩ = false ∧ BytesB w r v n

theorem Rd.mono {w : World} {r : Nat} {P Q : Int} (h : Rd w r P) (hq : P ≤ Q) : Rd w r Q := by
  obtain ⟨v, n, p, h1, h2, h3, h4⟩ := h
  exact ⟨v, n, p, h1, h2, by omega, h4⟩
theorem Rd.lt {w : World} {r : Nat} {P : Int} (h : Rd w r P) : r < w.heap.size := by
  obtain ⟨v, n, p, h1, h2, h3, h4, _⟩ := h
  exact h4

theorem BytesB.keep {w w' : World} {B : Nat} {v : Value} {n : Nat} (h : BytesB w B v n) (hs : w.heap.size ≤ w'.heap.size) (hk : ∀ k, k < B → w'.heap[k]? = w.heap[k]?) : BytesB w' B v n := by
  rcases h with h | ⟨h0, b, off, cap, h1, h2, h3, h4, h5, h6⟩
  · exact Or.inl h
  · refine Or.inr ⟨h0, b, off, cap, h1, h2, h3, h4, by omega, fun i hi => ?_⟩
    obtain ⟨z, z0, z1, hz⟩ := h6 i hi
    exact ⟨z, z0, z1, by rw [World.cell?_of_block (w := w) (hk b h4), hz]⟩

/-- Nothing up to the reader's block has turned: it reads on. -/
theorem Rd.keep {w w' : World} {r : Nat} {P : Int} (h : Rd w r P) (hb : Below (r + 1) w w') : Rd w' r P := by
  obtain ⟨v, n, p, h1, h2, h3, h4, h5, h6, h7, h8⟩ := h
  refine ⟨v, n, p, h1, h2, h3, by have := hb.size; omega, ?_, ?_, ?_, h8.keep hb.size fun k hk => hb.block k (by omega)⟩
  · rw [World.cell?_of_block (w := w) (hb.block r (by omega)), h5]
  · rw [World.cell?_of_block (w := w) (hb.block r (by omega)), h6]
  · rw [World.frozen?_of_block (w := w) (hb.block r (by omega)), h7]

theorem Rd.below {w w' : World} {r : Nat} {P : Int} (h : Rd w r P) (hb : Below w.heap.size w w') : Rd w' r P := h.keep (hb.mono h.lt)

/-- But for block r nothing that was there has turned. -/
structure ButR (r : Nat) (w w' : World) : Prop where
  os : w'.os = w.os
  tape : w'.tape = w.tape
  output : w'.output = w.output
  size : w.heap.size ≤ w'.heap.size
  block : ∀ k, k < w.heap.size → k ≠ r → w'.heap[k]? = w.heap[k]?

theorem ButR.refl (r : Nat) (w : World) : ButR r w w := ⟨rfl, rfl, rfl, Nat.le_refl _, fun _ _ _ => rfl⟩
theorem ButR.trans {r : Nat} {a b c : World} (h : ButR r a b) (k : ButR r b c) : ButR r a c :=
  ⟨k.os.trans h.os, k.tape.trans h.tape, k.output.trans h.output, Nat.le_trans h.size k.size, fun i hi hr => (k.block i (Nat.lt_of_lt_of_le hi h.size) hr).trans (h.block i hi hr)⟩
theorem ButR.of_below {r : Nat} {w w' : World} (h : Below w.heap.size w w') : ButR r w w' := ⟨h.os, h.tape, h.output, h.size, fun k hk _ => h.block k hk⟩
theorem ButR.alloc {r : Nat} {w w' : World} (h : ButR r w w') (o : Obj) : ButR r w (w'.alloc o) := h.trans (.of_below ((Below.refl _ _).alloc (Nat.le_refl _) _))
theorem ButR.drewN {r : Nat} {w w' : World} (h : ButR r w w') (n : Nat) : ButR r w (w'.drewN n) := ⟨h.os, h.tape, h.output, h.size, h.block⟩
theorem ButR.setCell {r : Nat} {w w' : World} (h : ButR r w w') {p : Addr} (hp : w.heap.size ≤ p.block ∨ p.block = r) (u : Value) : ButR r w (w'.setCell p u) :=
  ⟨h.os, h.tape, h.output, by simpa [World.setCell] using h.size, fun k hk hr => by rw [Below.heap_setCell _ _ _ _ (by omega)]; exact h.block k hk hr⟩
theorem ButR.cells {r : Nat} {w w' : World} (h : ButR r w w') : (∀ b o, b < w.heap.size → b ≠ r → w'.cell? ⟨b, o, none⟩ = w.cell? ⟨b, o, none⟩) ∧ (∀ b o, b < w.heap.size → b ≠ r → w'.frozen? ⟨b, o, none⟩ = w.frozen? ⟨b, o, none⟩) :=
  ⟨fun b _ h1 h2 => World.cell?_of_block (w := w) (h.block b h1 h2), fun b _ h1 h2 => World.frozen?_of_block (w := w) (h.block b h1 h2)⟩
/-- Behind the reader's birth nothing older has turned. -/
theorem ButR.below {r : Nat} {w0 w w' : World} (h0 : Below w0.heap.size w0 w) (h : ButR r w w') (hr : w0.heap.size ≤ r) : Below w0.heap.size w0 w' :=
  ⟨h.os.trans h0.os, h.tape.trans h0.tape, h.output.trans h0.output, Nat.le_trans h0.size h.size, fun k hk => (h.block k (Nat.lt_of_lt_of_le hk h0.size) (by omega)).trans (h0.block k hk)⟩

/-- What a pick leaves. -/
def Picked (n : Int) (r : Nat) (P : Int) (w : World) (e : Ending) (w' : World) : Prop := ∃ x : Int, 0 ≤ x ∧ x < n ∧ e = .returned (.int .i64 x) ∧ Rd w' r (P + 1) ∧ ButR r w w'

theorem Rd.moved {w : World} {r : Nat} {v : Value} {n : Nat} {p P : Int} (k : Nat) (h1 : n ≤ 2000) (h2 : 0 ≤ p) (h3 : p ≤ P) (h4 : r < w.heap.size) (h5 : w.cell? ⟨r, 0, none⟩ = some v) (h6 : w.cell? ⟨r, 1, none⟩ = some (.int .i64 p)) (h7 : w.frozen? ⟨r, 1, none⟩ = false) (h8 : BytesB w r v n) :
    Rd ((w.setCell ⟨r, 1, none⟩ (.int .i64 (p + 1))).drewN k) r (P + 1) ∧ ButR r w ((w.setCell ⟨r, 1, none⟩ (.int .i64 (p + 1))).drewN k) := by
  refine ⟨⟨v, n, p + 1, h1, by omega, by omega, by simpa [World.setCell] using h4, ?_, ?_, ?_, ?_⟩, ((ButR.refl r w).setCell (Or.inr rfl) _).drewN k⟩
  · rw [World.cell?_drewN, World.cell?_setCell_other w ⟨r, 1, none⟩ ⟨r, 0, none⟩ _ (by simp)]; exact h5
  · rw [World.cell?_drewN]; exact World.cell?_setCell_same _ _ _ h6
  · rw [World.frozen?_drewN]; simp [h7]
  · exact h8.keep (by simp [World.setCell]) fun j hj => by rw [World.heap_drewN, Below.heap_setCell _ _ _ _ (by simp; omega)]

/- pick and odd: the reader of a code moves on, and what it answers is in range. -/
open Go.RowKit

set_option maxHeartbeats 2000000 in
theorem pick_nil (r : Nat) (P n p : Int) (a : Option Addr) (c : Nat) (w : World) (hP : P ≤ 1000000) (n0 : 1 ≤ n) (n1 : n ≤ 1000000)
    (h2 : 0 ≤ p) (h3 : p ≤ P) (h4 : r < w.heap.size) (h5 : w.cell? ⟨r, 0, none⟩ = some (.slice a 0 c)) (h6 : w.cell? ⟨r, 1, none⟩ = some (.int .i64 p)) (h7 : w.frozen? ⟨r, 1, none⟩ = false) :
    Calls Tryd.prog 51 #[.pointer (some ⟨r, 0, none⟩), .int .i64 n] w (Picked n r P w) := by
  have hp1 : p + 1 ≤ 1000001 := by omega
  go_enter Tryd.func51, Tryd.ntmps51
  go_wp2
  go_ret
  have hm := Rd.moved (P := P) (n := 0) 0 (by omega) h2 h3 h4 h5 h6 h7 (Or.inl ⟨rfl, a, c, rfl⟩)
  exact ⟨0, by omega, by omega, rfl, hm.1, hm.2⟩

set_option maxHeartbeats 2000000 in
theorem pick_low (r : Nat) (P n p : Int) (b off len cap : Nat) (w : World) (hP : P ≤ 1000000) (n0 : 1 ≤ n) (n1 : n ≤ 1000000) (hl0 : 0 < len) (hl : len ≤ 2000) (hcap : len ≤ cap) (hcm : cap ≤ maxLen) (hbr : b < r) (hbw : b < w.heap.size)
    (hby : ∀ i, i < len → ∃ z : Int, 0 ≤ z ∧ z ≤ 255 ∧ w.cell? ⟨b, off + i, none⟩ = some (.int .u8 z))
    (h2 : 0 ≤ p) (h3 : p ≤ P) (hlt : p < len) (h4 : r < w.heap.size) (h5 : w.cell? ⟨r, 0, none⟩ = some (.slice (some ⟨b, off, none⟩) len cap)) (h6 : w.cell? ⟨r, 1, none⟩ = some (.int .i64 p)) (h7 : w.frozen? ⟨r, 1, none⟩ = false) :
    Calls Tryd.prog 51 #[.pointer (some ⟨r, 0, none⟩), .int .i64 n] w (Picked n r P w) := by
  obtain ⟨k, rfl⟩ : ∃ k : Nat, p = (k : Int) := ⟨p.toNat, by omega⟩
  obtain ⟨z, z0, z1, hz⟩ := hby k (by omega)
  have hm := fun j => Rd.moved (P := P) j hl h2 h3 h4 h5 h6 h7 (Or.inr ⟨hl0, b, off, cap, hcap, hcm, rfl, hbr, hbw, hby⟩)
  have hne : b ≠ r := by omega
  unfold maxLen at hcm
  clear hby
  have hlb : ((len : Int) == 0) = false := by simp; omega
  have hmz := z.emod_nonneg (b := n) (by omega)
  have hmz2 := Int.emod_lt_of_pos z (b := n) (by omega)
  go_enter Tryd.func51, Tryd.ntmps51
  go_wp2
  go_ret
  exact ⟨z % n, hmz, hmz2, rfl, (hm 0).1, (hm 0).2⟩

theorem tmod_nat {a : Int} {len : Nat} (ha : 0 ≤ a) (hl : 0 < len) : ∃ m : Nat, m < len ∧ a.tmod len = m := by
  have h1 := Int.emod_nonneg a (b := (len : Int)) (by omega)
  have h2 := Int.emod_lt_of_pos a (b := (len : Int)) (by omega)
  refine ⟨(a % len).toNat, by omega, ?_⟩
  rw [Int.tmod_eq_emod_of_nonneg ha]
  omega
theorem tdiv_small {a : Int} {len : Nat} (ha : 0 ≤ a) (hl : 0 < len) : ∃ q : Int, 0 ≤ q ∧ q ≤ a ∧ a.tdiv len = q := by
  refine ⟨a / len, Int.ediv_nonneg ha (by omega), Int.ediv_le_self _ ha, ?_⟩
  rw [Int.tdiv_eq_ediv_of_nonneg ha]

theorem xor_i64_nat (a b : Nat) (ha : a < 2 ^ 62) (hb : b < 2 ^ 62) : bits .xor .i64 (a : Int) (b : Int) = ((a ^^^ b : Nat) : Int) := by
  have hx : a ^^^ b < 2 ^ 62 := Nat.xor_lt_two_pow ha hb
  have ha' : a % 2 ^ IntKind.i64.bits = a := Nat.mod_eq_of_lt (by simp only [IntKind.bits]; omega)
  have hb' : b % 2 ^ IntKind.i64.bits = b := Nat.mod_eq_of_lt (by simp only [IntKind.bits]; omega)
  simp only [bits, BitVec.ofInt_natCast, BitVec.toNat_xor, BitVec.toNat_ofNat, ha', hb']
  rw [IntKind.wrap_i64]
  omega
theorem xor_i64 {a b : Int} (a0 : 0 ≤ a) (a1 : a ≤ 1000000000) (b0 : 0 ≤ b) (b1 : b ≤ 1000000000) : 0 ≤ bits .xor .i64 a b := by
  obtain ⟨m, rfl⟩ : ∃ m : Nat, a = m := ⟨a.toNat, by omega⟩
  obtain ⟨n, rfl⟩ : ∃ n : Nat, b = n := ⟨b.toNat, by omega⟩
  rw [xor_i64_nat m n (by omega) (by omega)]
  exact Int.natCast_nonneg _

set_option maxHeartbeats 4000000 in
theorem pick_high (r : Nat) (P n p : Int) (b off len cap : Nat) (w : World) (hP : P ≤ 1000000) (n0 : 1 ≤ n) (n1 : n ≤ 1000000) (hl0 : 0 < len) (hl : len ≤ 2000) (hcap : len ≤ cap) (hcm : cap ≤ maxLen) (hbr : b < r) (hbw : b < w.heap.size)
    (hby : ∀ i, i < len → ∃ z : Int, 0 ≤ z ∧ z ≤ 255 ∧ w.cell? ⟨b, off + i, none⟩ = some (.int .u8 z))
    (h2 : 0 ≤ p) (h3 : p ≤ P) (hge : len ≤ p) (h4 : r < w.heap.size) (h5 : w.cell? ⟨r, 0, none⟩ = some (.slice (some ⟨b, off, none⟩) len cap)) (h6 : w.cell? ⟨r, 1, none⟩ = some (.int .i64 p)) (h7 : w.frozen? ⟨r, 1, none⟩ = false) :
    Calls Tryd.prog 51 #[.pointer (some ⟨r, 0, none⟩), .int .i64 n] w (Picked n r P w) := by
  obtain ⟨k, rfl⟩ : ∃ k : Nat, p = (k : Int) := ⟨p.toNat, by omega⟩
  have hm := fun j => Rd.moved (P := P) j hl h2 h3 h4 h5 h6 h7 (Or.inr ⟨hl0, b, off, cap, hcap, hcm, rfl, hbr, hbw, hby⟩)
  have hne : b ≠ r := by omega
  have hk6 : (k : Int) ≤ 1000000 := by omega
  unfold maxLen at hcm
  obtain ⟨m1, l1, t1⟩ := tmod_nat (a := (k : Int)) (len := len) (by omega) hl0
  obtain ⟨m2, l2, t2⟩ := tmod_nat (a := (k : Int) * 7 + 3) (len := len) (by omega) hl0
  obtain ⟨q, q0, q1, t3⟩ := tdiv_small (a := (k : Int)) (len := len) (by omega) hl0
  obtain ⟨y, y0, y1, hy⟩ := hby m1 l1
  obtain ⟨z, z0, z1, hz⟩ := hby m2 l2
  clear hby
  have hlb : ((len : Int) == 0) = false := by simp; omega
  have l1' : (m1 : Int) < (len : Int) := by omega
  have l2' : (m2 : Int) < (len : Int) := by omega
  have m10 : (0 : Int) ≤ (m1 : Int) := by omega
  have m20 : (0 : Int) ≤ (m2 : Int) := by omega
  have s1 : IntKind.i64.wrap (y * 131) = y * 131 := IntWalk.i64_in _ (by omega)
  have s2 : IntKind.i64.wrap ((k : Int) * 7) = (k : Int) * 7 := IntWalk.i64_in _ (by omega)
  have s3 : IntKind.i64.wrap ((k : Int) * 7 + 3) = (k : Int) * 7 + 3 := IntWalk.i64_in _ (by omega)
  have s4 : IntKind.i64.wrap (z * 1117) = z * 1117 := IntWalk.i64_in _ (by omega)
  have s5 : IntKind.i64.wrap (y * 131 + z * 1117) = y * 131 + z * 1117 := IntWalk.i64_in _ (by omega)
  have s6 : IntKind.i64.wrap ((k : Int) * 29) = (k : Int) * 29 := IntWalk.i64_in _ (by omega)
  have s7 : IntKind.i64.wrap (y * 131 + z * 1117 + (k : Int) * 29) = y * 131 + z * 1117 + (k : Int) * 29 := IntWalk.i64_in _ (by omega)
  have s8 : IntKind.i64.wrap (q * 53) = q * 53 := IntWalk.i64_in _ (by omega)
  have s9 : IntKind.i64.wrap (y * 131 + z * 1117 + (k : Int) * 29 + q * 53) = y * 131 + z * 1117 + (k : Int) * 29 + q * 53 := IntWalk.i64_in _ (by omega)
  have s0 : IntKind.i64.wrap q = q := IntWalk.i64_in _ (by omega)
  have HX : 0 ≤ y * 131 + z * 1117 + (k : Int) * 29 + q * 53 := by omega
  have HY : y * 131 + z * 1117 + (k : Int) * 29 + q * 53 ≤ 1000000000 := by omega
  go_enter Tryd.func51, Tryd.ntmps51
  go_wp2
  go_quiet (fail)
  clear s0 s1 s2 s3 s4 s5 s6 s7 s8 s9 t1 t2 t3 hy hz l1' l2' m10 m20
  revert HX HY
  generalize y * 131 + z * 1117 + (k : Int) * 29 + q * 53 = X
  intro HX HY
  have d0 : 0 ≤ X / 64 := by omega
  have d1 : X / 64 ≤ 1000000000 := by omega
  have hx := xor_i64 HX HY d0 d1
  go_wp2
  go_ret
  have e0 := Int.emod_nonneg (bits .xor .i64 X (X / 64)) (b := n) (by omega)
  have e1 := Int.emod_lt_of_pos (bits .xor .i64 X (X / 64)) (b := n) (by omega)
  exact ⟨_, e0, e1, rfl, (hm _).1, (hm _).2⟩

theorem pick_any (r : Nat) (P n : Int) (w : World) (h : Rd w r P) (hP : P ≤ 1000000) (n0 : 1 ≤ n) (n1 : n ≤ 1000000) :
    Calls Tryd.prog 51 #[.pointer (some ⟨r, 0, none⟩), .int .i64 n] w (Picked n r P w) := by
  obtain ⟨v, m, p, h1, h2, h3, h4, h5, h6, h7, h8⟩ := h
  rcases h8 with ⟨rfl, a, c, rfl⟩ | ⟨g0, b, off, cap, g1, g2, rfl, g3, g4, g5⟩
  · exact pick_nil r P n p a c w hP n0 n1 h2 h3 h4 h5 h6 h7
  · by_cases hlt : p < m
    · exact pick_low r P n p b off m cap w hP n0 n1 g0 h1 g1 g2 g3 g4 g5 h2 h3 hlt h4 h5 h6 h7
    · exact pick_high r P n p b off m cap w hP n0 n1 g0 h1 g1 g2 g3 g4 g5 h2 h3 (by omega) h4 h5 h6 h7

/-- What odd leaves. -/
def Odd (r : Nat) (P : Int) (w : World) (e : Ending) (w' : World) : Prop := ∃ x : Bool, e = .returned (.bool x) ∧ Rd w' r (P + 1) ∧ ButR r w w'

set_option maxHeartbeats 1000000 in
theorem odd_any (r : Nat) (P n : Int) (w : World) (h : Rd w r P) (hP : P ≤ 1000000) (n0 : 0 ≤ n) (n1 : n ≤ 1000000) :
    Calls Tryd.prog 77 #[.pointer (some ⟨r, 0, none⟩), .int .i64 n] w (Odd r P w) := by
  by_cases hn : n = 0
  · subst hn
    go_enter Tryd.func77, Tryd.ntmps77
    go_wp2
    go_ret
    exact ⟨false, rfl, h.mono (by omega), ButR.refl _ _⟩
  · have hn1 : 1 ≤ n := by omega
    go_enter Tryd.func77, Tryd.ntmps77
    go_wp2_with (go_at_call 51; refine (pick_any _ _ _ _ h hP hn1 n1).mono ?_; rintro e w1 ⟨x, x0, x1, rfl, hr, hbut⟩)
    go_ret
    exact ⟨_, rfl, hr, hbut⟩

/- l20Open and l20Pitch: a reader is opened; a pitch is drawn, its numbers in range. -/
open Go.RowKit

/-- What opening leaves. -/
def Opened (w : World) (e : Ending) (w' : World) : Prop := ∃ r : Nat, w.heap.size ≤ r ∧ e = .returned (.pointer (some ⟨r, 0, none⟩)) ∧ Rd w' r 0 ∧ Below w.heap.size w w'

theorem Opened.mk {w : World} {v : Value} {n : Nat} {t : TypeId} (hn : n ≤ 2000) (h : BytesB w w.heap.size v n) : Opened w (.returned (.pointer (some ⟨w.heap.size, 0, none⟩))) (w.alloc (.cells #[v, .int .i64 0] t)) := by
  refine ⟨w.heap.size, Nat.le_refl _, rfl, ⟨v, n, 0, hn, by omega, by omega, by simp, by simp, by simp, World.frozen?_alloc_at _ _ _ _ (by simp), ?_⟩, below1 _⟩
  exact h.keep (by simp) fun k hk => Below.heap_alloc _ _ _ hk

set_option maxHeartbeats 1000000 in
theorem open_any (v : Value) (n : Nat) (w : World) (hn : n ≤ maxLen) (h : BytesB w w.heap.size v n) :
    Calls Tryd.prog 46 #[v] w (Opened w) := by
  unfold maxLen at hn
  rcases h with ⟨rfl, a, c, rfl⟩ | ⟨g0, b, off, cap, g1, g2, rfl, g3, g4, g5⟩
  · go_enter Tryd.func46, Tryd.ntmps46
    go_wp2
    go_ret
    exact Opened.mk (n := 0) (by omega) (Or.inl ⟨rfl, _, _, rfl⟩)
  · by_cases hl : n ≤ 2000
    · have HB := hid (Or.inr ⟨g0, b, off, cap, g1, g2, rfl, g3, g4, g5⟩ : BytesB w w.heap.size (.slice (some ⟨b, off, none⟩) n cap) n)
      clear g5
      unfold maxLen at g2
      have hl' : (n : Int) ≤ 2000 := by omega
      go_enter Tryd.func46, Tryd.ntmps46
      go_wp2
      go_ret
      exact Opened.mk hl HB.out
    · have HB := hid (Or.inr ⟨by omega, b, off, cap, by omega, g2, rfl, g3, g4, fun i hi => g5 i (by omega)⟩ : BytesB w w.heap.size (.slice (some ⟨b, off, none⟩) 2000 cap) 2000)
      clear g5
      unfold maxLen at g2
      have hl' : 2000 < (n : Int) := by omega
      have hc2 : 2000 ≤ cap := by omega
      go_enter Tryd.func46, Tryd.ntmps46
      go_wp2
      go_ret
      exact Opened.mk (by omega) HB.out

/-- A pitch in a block of its own, in range; and what of the call's memory is known beside it. -/
def LP (w0 : World) (r q : Nat) (P : Int) (W : World) : Prop :=
  Rd W r P ∧ ButR r w0 W ∧ w0.heap.size < q ∧ q < W.heap.size ∧ (W.frozen? ⟨w0.heap.size, 0, none⟩ = false ∧ W.frozen? ⟨w0.heap.size, 1, none⟩ = false ∧ W.frozen? ⟨w0.heap.size, 2, none⟩ = false) ∧
  (∃ x y z, W.cell? ⟨w0.heap.size, 0, none⟩ = some x ∧ W.cell? ⟨w0.heap.size, 1, none⟩ = some y ∧ W.cell? ⟨w0.heap.size, 2, none⟩ = some z) ∧
  (W.frozen? ⟨q, 0, none⟩ = false ∧ W.frozen? ⟨q, 1, none⟩ = false ∧ W.frozen? ⟨q, 2, none⟩ = false) ∧
  ∃ s a o : Int, (-1 ≤ s ∧ s ≤ 7) ∧ (-3 ≤ a ∧ a ≤ 3) ∧ (-1 ≤ o ∧ o ≤ 9) ∧ W.cell? ⟨q, 0, none⟩ = some (.int .i64 s) ∧ W.cell? ⟨q, 1, none⟩ = some (.int .i64 a) ∧ W.cell? ⟨q, 2, none⟩ = some (.int .i64 o)

theorem LP.picked {w0 W W' : World} {r q : Nat} {P Q : Int} (h : LP w0 r q P W) (hr : Rd W' r Q) (hb : ButR r W W') (hr0 : r < w0.heap.size) : LP w0 r q Q W' := by
  obtain ⟨h1, h2, h3, h4, ⟨f0, f1, f2⟩, ⟨x, y, z, c0, c1, c2⟩, ⟨g0, g1, g2⟩, s, a, o, hs, ha, ho, d0, d1, d2⟩ := h
  obtain ⟨hc, hf⟩ := hb.cells
  have n0 : w0.heap.size < W.heap.size := by omega
  refine ⟨hr, h2.trans hb, h3, by have := hb.size; omega, ⟨?_, ?_, ?_⟩, ⟨x, y, z, ?_, ?_, ?_⟩, ⟨?_, ?_, ?_⟩, s, a, o, hs, ha, ho, ?_, ?_, ?_⟩
  · rw [hf _ _ n0 (by omega), f0]
  · rw [hf _ _ n0 (by omega), f1]
  · rw [hf _ _ n0 (by omega), f2]
  · rw [hc _ _ n0 (by omega), c0]
  · rw [hc _ _ n0 (by omega), c1]
  · rw [hc _ _ n0 (by omega), c2]
  · rw [hf _ _ h4 (by omega), g0]
  · rw [hf _ _ h4 (by omega), g1]
  · rw [hf _ _ h4 (by omega), g2]
  · rw [hc _ _ h4 (by omega), d0]
  · rw [hc _ _ h4 (by omega), d1]
  · rw [hc _ _ h4 (by omega), d2]

theorem LP.alloc {w0 W : World} {r q : Nat} {P : Int} (h : LP w0 r q P W) (hr0 : r < w0.heap.size) (o : Obj) : LP w0 r q P (W.alloc o) :=
  h.picked (h.1.below (below1 o)) (.of_below (below1 o)) hr0

/-- One of the pitch's numbers is set anew. -/
theorem LP.set {w0 W : World} {r q : Nat} {P : Int} (h : LP w0 r q P W) (hr0 : r < w0.heap.size) (i : Nat) (x : Int) (hi : (i = 0 ∧ -1 ≤ x ∧ x ≤ 7) ∨ (i = 1 ∧ -3 ≤ x ∧ x ≤ 3) ∨ (i = 2 ∧ -1 ≤ x ∧ x ≤ 9)) :
    LP w0 r q P (W.setCell ⟨q, i, none⟩ (.int .i64 x)) := by
  obtain ⟨h1, h2, h3, h4, ⟨f0, f1, f2⟩, ⟨u, y, z, c0, c1, c2⟩, ⟨g0, g1, g2⟩, s, a, o, hs, ha, ho, d0, d1, d2⟩ := h
  have hR : Rd (W.setCell ⟨q, i, none⟩ (.int .i64 x)) r P := h1.keep ((Below.refl _ _).setCell (by show r + 1 ≤ q; omega) _)
  refine ⟨hR, h2.setCell (Or.inl (by show w0.heap.size ≤ q; omega)) _, h3, by simpa using h4, ⟨?_, ?_, ?_⟩, ⟨u, y, z, ?_, ?_, ?_⟩, ⟨?_, ?_, ?_⟩, ?_⟩
  · simpa using f0
  · simpa using f1
  · simpa using f2
  · rw [World.cell?_setCell_other W ⟨q, i, none⟩ _ _ (fun e => by have e2 := congrArg Addr.block e; simp at e2; omega), c0]
  · rw [World.cell?_setCell_other W ⟨q, i, none⟩ _ _ (fun e => by have e2 := congrArg Addr.block e; simp at e2; omega), c1]
  · rw [World.cell?_setCell_other W ⟨q, i, none⟩ _ _ (fun e => by have e2 := congrArg Addr.block e; simp at e2; omega), c2]
  · simpa using g0
  · simpa using g1
  · simpa using g2
  · rcases hi with ⟨rfl, b0, b1⟩ | ⟨rfl, b0, b1⟩ | ⟨rfl, b0, b1⟩
    · exact ⟨x, a, o, ⟨b0, b1⟩, ha, ho, World.cell?_setCell_same _ _ _ d0, by rw [World.cell?_setCell_other W ⟨q, 0, none⟩ _ _ (by simp), d1], by rw [World.cell?_setCell_other W ⟨q, 0, none⟩ _ _ (by simp), d2]⟩
    · exact ⟨s, x, o, hs, ⟨b0, b1⟩, ho, by rw [World.cell?_setCell_other W ⟨q, 1, none⟩ _ _ (by simp), d0], World.cell?_setCell_same _ _ _ d1, by rw [World.cell?_setCell_other W ⟨q, 1, none⟩ _ _ (by simp), d2]⟩
    · exact ⟨s, a, x, hs, ha, ⟨b0, b1⟩, by rw [World.cell?_setCell_other W ⟨q, 2, none⟩ _ _ (by simp), d0], by rw [World.cell?_setCell_other W ⟨q, 2, none⟩ _ _ (by simp), d1], World.cell?_setCell_same _ _ _ d2⟩

/-- The pitch's block is laid behind two picks. -/
theorem LP.start {w0 W : World} {r : Nat} {P s o : Int} {t t' : TypeId} (hr : Rd W r P) (hb : ButR r (w0.alloc (.cells #[.int .i64 0, .int .i64 0, .int .i64 0] t)) W) (hr0 : r < w0.heap.size) (hs : -1 ≤ s ∧ s ≤ 7) (ho : -1 ≤ o ∧ o ≤ 9) :
    LP w0 r W.heap.size P (W.alloc (.cells #[.int .i64 s, .int .i64 0, .int .i64 o] t')) := by
  have hz := hb.size
  simp at hz
  obtain ⟨hc, hf⟩ := hb.cells
  have n0 : w0.heap.size < (w0.alloc (.cells #[.int .i64 0, .int .i64 0, .int .i64 0] t)).heap.size := by simp
  refine ⟨hr.below (below1 _), (((ButR.refl r w0).alloc _).trans hb).alloc _, by omega, by simp, ⟨?_, ?_, ?_⟩, ⟨.int .i64 0, .int .i64 0, .int .i64 0, ?_, ?_, ?_⟩, ⟨World.frozen?_alloc_at _ _ _ _ rfl, World.frozen?_alloc_at _ _ _ _ rfl, World.frozen?_alloc_at _ _ _ _ rfl⟩, s, 0, o, hs, by omega, ho, by simp, by simp, by simp⟩
  · rw [((Below.refl W.heap.size W).alloc (Nat.le_refl _) _).frozen (p := ⟨w0.heap.size, 0, none⟩) (by show w0.heap.size < _; omega), hf _ _ n0 (by omega)]; exact World.frozen?_alloc_at _ _ _ _ rfl
  · rw [((Below.refl W.heap.size W).alloc (Nat.le_refl _) _).frozen (p := ⟨w0.heap.size, 1, none⟩) (by show w0.heap.size < _; omega), hf _ _ n0 (by omega)]; exact World.frozen?_alloc_at _ _ _ _ rfl
  · rw [((Below.refl W.heap.size W).alloc (Nat.le_refl _) _).frozen (p := ⟨w0.heap.size, 2, none⟩) (by show w0.heap.size < _; omega), hf _ _ n0 (by omega)]; exact World.frozen?_alloc_at _ _ _ _ rfl
  · rw [World.cell?_alloc_lt W _ _ (by show w0.heap.size < _; omega), hc _ _ n0 (by omega)]; simp
  · rw [World.cell?_alloc_lt W _ _ (by show w0.heap.size < _; omega), hc _ _ n0 (by omega)]; simp
  · rw [World.cell?_alloc_lt W _ _ (by show w0.heap.size < _; omega), hc _ _ n0 (by omega)]; simp

/-- One of two, by a number. -/
def sel (x a b : Int) : Int := if x = 0 then a else b
theorem sel_or (x a b : Int) : sel x a b = a ∨ sel x a b = b := by unfold sel; split <;> simp
theorem pair_at {W W' : World} {r : Nat} {a b x : Int} {t : TypeId} (hb : ButR r (W.alloc (.cells #[.int .i64 a, .int .i64 b] t)) W') (hr : r < W.heap.size) (x0 : 0 ≤ x) (x1 : x < 2) :
    W'.cell? ⟨W.heap.size, x.toNat, none⟩ = some (.int .i64 (sel x a b)) := by
  obtain ⟨hc, _⟩ := hb.cells
  rw [hc _ _ (by simp) (by omega)]
  rcases (show x = 0 ∨ x = 1 by omega) with rfl | rfl <;> simp [sel]

theorem LP.mono {w0 W : World} {r q : Nat} {P Q : Int} (h : LP w0 r q P W) (hq : P ≤ Q) : LP w0 r q Q W := ⟨h.1.mono hq, h.2⟩

theorem LP.done {w0 W : World} {r q : Nat} {P Q : Int} (h : LP w0 r q P W) (hr0 : r < w0.heap.size) (hq : P ≤ Q) (x y z : Value) :
    Rd (((W.setCell ⟨w0.heap.size, 0, none⟩ x).setCell ⟨w0.heap.size, 1, none⟩ y).setCell ⟨w0.heap.size, 2, none⟩ z) r Q ∧ ButR r w0 (((W.setCell ⟨w0.heap.size, 0, none⟩ x).setCell ⟨w0.heap.size, 1, none⟩ y).setCell ⟨w0.heap.size, 2, none⟩ z) :=
  ⟨(h.1.keep ((((Below.refl _ _).setCell (by show r + 1 ≤ w0.heap.size; omega) _).setCell (by show r + 1 ≤ w0.heap.size; omega) _).setCell (by show r + 1 ≤ w0.heap.size; omega) _)).mono hq,
   ((h.2.1.setCell (Or.inl (Nat.le_refl _)) _).setCell (Or.inl (Nat.le_refl _)) _).setCell (Or.inl (Nat.le_refl _)) _⟩

/-- What drawing a pitch leaves. -/
def Drew (r : Nat) (P : Int) (w : World) (e : Ending) (w' : World) : Prop :=
  ∃ s a o : Int, (-1 ≤ s ∧ s ≤ 7) ∧ (-3 ≤ a ∧ a ≤ 3) ∧ (-1 ≤ o ∧ o ≤ 9) ∧ e = .returned (.agg #[.int .i64 s, .int .i64 a, .int .i64 o]) ∧ Rd w' r (P + 20) ∧ ButR r w w'

set_option maxHeartbeats 4000000 in
theorem l20Pitch_any (r : Nat) (P n : Int) (w : World) (h : Rd w r P) (hP : P ≤ 900000) (n0 : 0 ≤ n) (n1 : n ≤ 1000000) :
    Calls Tryd.prog 95 #[.pointer (some ⟨r, 0, none⟩), .int .i64 n] w (Drew r P w) := by
  have hr0 := h.lt
  go_enter Tryd.func95, Tryd.ntmps95
  go_wp2_with fail
  refine (pick_any r P 7 _ (h.below (below1 _)) (by omega) (by omega) (by omega)).mono ?_
  rintro e w1 ⟨x, x0, x1, rfl, hr1, hb1⟩
  go_wp2_with fail
  refine (pick_any r (P + 1) 4 _ hr1 (by omega) (by omega) (by omega)).mono ?_
  rintro e w2 ⟨y, y0, y1, rfl, hr2, hb2⟩
  have hL := LP.start (s := x) (o := 2 + y) (t' := 37) hr2 (hb1.trans hb2) hr0 (by omega) (by omega)
  clear hr1 hr2 hb1 hb2
  go_upto_if 14 with (go_at_call 51; refine (pick_any _ _ _ _ hL.1 (by omega) (by omega) (by omega)).mono ?_; rintro e w3 ⟨x, x0, x1, rfl, hr1, hb1⟩; have hL := hL.picked hr1 hb1 hr0; clear hr1 hb1; obtain ⟨_, _, hq0, hq1, ⟨f0, f1, f2⟩, ⟨cx, cy, cz, c0, c1, c2⟩, ⟨g0, g1, g2⟩, s, a, o, hs, ha, ho, d0, d1, d2⟩ := id hL)
  go_cut [5] (fun s5 wx => s5 = .pointer (some ⟨w2.heap.size, 0, none⟩) ∧ LP w r w2.heap.size (P + 4) wx)
  case first =>
    go_wp2_with (go_at_call 51; refine (pick_any _ _ _ _ hL.1 (by omega) (by omega) (by omega)).mono ?_; rintro e w3 ⟨x, x0, x1, rfl, hr1, hb1⟩; have hL := hL.picked hr1 hb1 hr0; clear hr1 hb1; obtain ⟨_, _, hq0, hq1, ⟨f0, f1, f2⟩, ⟨cx, cy, cz, c0, c1, c2⟩, ⟨g0, g1, g2⟩, s, a, o, hs, ha, ho, d0, d1, d2⟩ := id hL)
    · go_meet
      exact ⟨rfl, (hL.set hr0 1 (x - 1) (by omega)).mono (by omega)⟩
    · go_meet
      exact ⟨rfl, hL.mono (by omega)⟩
  case rest =>
    clear hL
    obtain ⟨rfl, hL⟩ := hcut
    go_upto_if 21 with (go_at_call 51; refine (pick_any _ _ _ _ hL.1 (by omega) (by omega) (by omega)).mono ?_; rintro e w3 ⟨x, x0, x1, rfl, hr1, hb1⟩; have hL := hL.picked hr1 hb1 hr0; clear hr1 hb1; obtain ⟨_, _, hq0, hq1, ⟨f0, f1, f2⟩, ⟨cx, cy, cz, c0, c1, c2⟩, ⟨g0, g1, g2⟩, s, a, o, hs, ha, ho, d0, d1, d2⟩ := id hL)
    go_cut [5] (fun s5 wx => s5 = .pointer (some ⟨w2.heap.size, 0, none⟩) ∧ LP w r w2.heap.size (P + 6) wx)
    case first =>
      go_wp2_with (go_at_call 51; refine (pick_any _ _ _ _ (hL.alloc hr0 _).1 (by omega) (by omega) (by omega)).mono ?_; rintro e w3 ⟨x, x0, x1, rfl, hr1, hb1⟩; have hp := pair_at hb1 (Nat.lt_trans hr0 (Nat.lt_trans hL.2.2.1 hL.2.2.2.1)) x0 x1; have hL := (hL.alloc hr0 _).picked hr1 hb1 hr0; clear hr1 hb1; obtain ⟨_, _, hq0, hq1, ⟨f0, f1, f2⟩, ⟨cx, cy, cz, c0, c1, c2⟩, ⟨g0, g1, g2⟩, s, a, o, hs, ha, ho, d0, d1, d2⟩ := id hL)
      · go_meet
        exact ⟨rfl, (hL.set hr0 1 (sel x 2 (-2)) (by have := sel_or x 2 (-2); omega)).mono (by omega)⟩
      · go_meet
        exact ⟨rfl, hL.mono (by omega)⟩
    case rest =>
      clear hL
      obtain ⟨rfl, hL⟩ := hcut
      go_upto_if 30 with (go_at_call 51; refine (pick_any _ _ _ _ hL.1 (by omega) (by omega) (by omega)).mono ?_; rintro e w3 ⟨x, x0, x1, rfl, hr1, hb1⟩; have hL := hL.picked hr1 hb1 hr0; clear hr1 hb1; obtain ⟨_, _, hq0, hq1, ⟨f0, f1, f2⟩, ⟨cx, cy, cz, c0, c1, c2⟩, ⟨g0, g1, g2⟩, s, a, o, hs, ha, ho, d0, d1, d2⟩ := id hL)
      go_cut [5] (fun s5 wx => s5 = .pointer (some ⟨w2.heap.size, 0, none⟩) ∧ LP w r w2.heap.size (P + 8) wx)
      case first =>
        go_wp2_with (go_at_call 51; refine (pick_any _ _ _ _ (hL.alloc hr0 _).1 (by omega) (by omega) (by omega)).mono ?_; rintro e w3 ⟨x, x0, x1, rfl, hr1, hb1⟩; have hp := pair_at hb1 (Nat.lt_trans hr0 (Nat.lt_trans hL.2.2.1 hL.2.2.2.1)) x0 x1; have hL := (hL.alloc hr0 _).picked hr1 hb1 hr0; clear hr1 hb1; obtain ⟨_, _, hq0, hq1, ⟨f0, f1, f2⟩, ⟨cx, cy, cz, c0, c1, c2⟩, ⟨g0, g1, g2⟩, s, a, o, hs, ha, ho, d0, d1, d2⟩ := id hL)
        · go_meet
          exact ⟨rfl, (hL.set hr0 2 (sel x 0 8) (by have := sel_or x 0 8; omega)).mono (by omega)⟩
        · go_meet
          exact ⟨rfl, hL.mono (by omega)⟩
      case rest =>
        clear hL
        obtain ⟨rfl, hL⟩ := hcut
        go_upto_if 39 with (go_at_call 77; refine (odd_any _ _ _ _ hL.1 (by omega) (by omega) (by omega)).mono ?_; rintro e w3 ⟨bo, rfl, hr1, hb1⟩; have hL := hL.picked hr1 hb1 hr0; clear hr1 hb1; obtain ⟨_, _, hq0, hq1, ⟨f0, f1, f2⟩, ⟨cx, cy, cz, c0, c1, c2⟩, ⟨g0, g1, g2⟩, s, a, o, hs, ha, ho, d0, d1, d2⟩ := id hL)
        go_cut [5] (fun s5 wx => s5 = .pointer (some ⟨w2.heap.size, 0, none⟩) ∧ LP w r w2.heap.size (P + 12) wx)
        case first =>
          go_wp2_with (first | (go_at_call 51; refine (pick_any _ _ _ _ hL.1 (by omega) (by omega) (by omega)).mono ?_; rintro e w3 ⟨x, x0, x1, rfl, hr1, hb1⟩; have hL := hL.picked hr1 hb1 hr0; clear hr1 hb1; obtain ⟨_, _, hq0, hq1, ⟨f0, f1, f2⟩, ⟨cx, cy, cz, c0, c1, c2⟩, ⟨g0, g1, g2⟩, s, a, o, hs, ha, ho, d0, d1, d2⟩ := id hL) | (go_at_call 51; refine (pick_any _ _ _ _ (hL.alloc hr0 _).1 (by omega) (by omega) (by omega)).mono ?_; rintro e w3 ⟨x, x0, x1, rfl, hr1, hb1⟩; have hp := pair_at hb1 (Nat.lt_trans hr0 (Nat.lt_trans hL.2.2.1 hL.2.2.2.1)) x0 x1; have hL := (hL.alloc hr0 _).picked hr1 hb1 hr0; clear hr1 hb1; obtain ⟨_, _, hq0, hq1, ⟨f0, f1, f2⟩, ⟨cx, cy, cz, c0, c1, c2⟩, ⟨g0, g1, g2⟩, s, a, o, hs, ha, ho, d0, d1, d2⟩ := id hL))
          · go_meet
            exact ⟨rfl, (hL.set hr0 0 (sel x (-1) 7) (by have := sel_or x (-1) 7; omega)).mono (by omega)⟩
          · go_meet
            exact ⟨rfl, (hL.set hr0 1 (sel x (-3) 3) (by have := sel_or x (-3) 3; omega)).mono (by omega)⟩
          · go_meet
            exact ⟨rfl, (hL.set hr0 2 (sel x (-1) 9) (by have := sel_or x (-1) 9; omega)).mono (by omega)⟩
          · go_meet
            exact ⟨rfl, hL.mono (by omega)⟩
        case rest =>
          clear hL
          obtain ⟨rfl, hL⟩ := hcut
          obtain ⟨_, _, hq0, hq1, ⟨f0, f1, f2⟩, ⟨cx, cy, cz, c0, c1, c2⟩, ⟨g0, g1, g2⟩, s, a, o, hs, ha, ho, d0, d1, d2⟩ := id hL
          go_wp2
          refine bodyPost_ret (v := .agg #[.int .i64 s, .int .i64 a, .int .i64 o]) (by simp [results, Tryd.results95, go_sem, c0, c1, c2]) rfl ⟨s, a, o, hs, ha, ho, rfl, ?_⟩
          exact hL.done hr0 (by omega) _ _ _

/- What a call owns that draws from a reader: the reader's block moves on, nothing else that was there turns. -/
open Go.RowKit

theorem XStab.rd {r : Nat} {P : Int} : XStab fun w => Rd w r P := fun _ _ h hb => h.below hb

theorem Stab.but {r : Nat} {w0 : World} (hr : r < w0.heap.size) : Stab w0.heap.size (ButR r w0) :=
  ⟨fun _ h => h.size, fun _ _ _ h hg hr => ⟨hg.os.trans h.os, hg.tape.trans h.tape, hg.output.trans h.output, Nat.le_trans h.size hg.size, fun k hk hkr =>
    (hg.block k (Nat.lt_of_lt_of_le hk h.size) (fun e => by have := (hr k e.symm).1; omega)).trans (h.block k hk hkr)⟩⟩

/-- The base of a call that draws: nothing but block r has turned, and it holds a reader that is at most P on. -/
def Bd (r : Nat) (w0 : World) (P : Int) (w : World) : Prop := ButR r w0 w ∧ Rd w r P
theorem Stab.bd {r : Nat} {w0 : World} {P : Int} (hr : r < w0.heap.size) : Stab w0.heap.size (Bd r w0 P) :=
  ⟨fun _ h => h.1.size, fun w w' q h hg hq => ⟨(Stab.but hr).grown w w' q h.1 hg hq, h.2.keep ⟨hg.os, hg.tape, hg.output, hg.size, fun k hk =>
    hg.block k (Nat.lt_of_lt_of_le (show k < w0.heap.size by omega) h.1.size) (fun e => by have := (hq k e.symm).1; omega)⟩⟩⟩
theorem Own.startD {w0 : World} {r : Nat} {P : Int} (h : Rd w0 r P) : Own w0.heap.size (Bd r w0 P) w0 [] := ⟨Stab.bd h.lt, ButR.refl _ _, h⟩

/-- The reader has moved on: what is owned is as it was. -/
theorem ButR.grown {r : Nat} {w w' : World} (h : ButR r w w') : w.grownBy w' (some r) := ⟨h.os, h.tape, h.output, h.size, fun k hk hr => h.block k hk (fun e => hr (by rw [e]))⟩
theorem Own.but {n r : Nat} {B B' : World → Prop} {w w' : World} (hr : r < n) (hs : Stab n B') (hB : B' w') (hb : ButR r w w') : ∀ {L : List Item}, Own n B w L → Own n B' w' L
  | [], _ => ⟨hs, hB⟩
  | _ :: _, ⟨⟨h1, h2⟩, h3⟩ => ⟨⟨h1.grown hb.grown fun g hg e => by cases e; have := (h1.lt _ hg).1; omega, h2⟩, h3.but hr hs hB hb⟩
/-- The base turned for another that holds, too. -/
theorem Own.rebase {n : Nat} {B B' : World → Prop} {w : World} (hs : Stab n B') (hB : B w → B' w) : ∀ {L : List Item}, Own n B w L → Own n B' w L
  | [], h => ⟨hs, hB h.2⟩
  | _ :: _, h => ⟨h.1, h.2.rebase hs hB⟩
theorem Own.mono {r : Nat} {w0 w : World} {P Q : Int} {L : List Item} (h : Own w0.heap.size (Bd r w0 P) w L) (hr : r < w0.heap.size) (hq : P ≤ Q) : Own w0.heap.size (Bd r w0 Q) w L :=
  h.rebase (Stab.bd hr) fun h => ⟨h.1, h.2.mono hq⟩

theorem own_pick {r : Nat} {w0 W : World} {P k : Int} {L : List Item} {K : Ending → World → Prop} (hO : Own w0.heap.size (Bd r w0 P) W L) (hr : r < w0.heap.size) (hP : P ≤ 1000000) (k0 : 1 ≤ k) (k1 : k ≤ 1000000)
    (h : ∀ (x : Int) w1, 0 ≤ x → x < k → Own w0.heap.size (Bd r w0 (P + 1)) w1 L → K (.returned (.int .i64 x)) w1) :
    Calls Tryd.prog 51 #[.pointer (some ⟨r, 0, none⟩), .int .i64 k] W K :=
  (pick_any r P k W hO.base.2 hP k0 k1).mono fun e w1 ⟨x, x0, x1, he, hR, hb⟩ => by
    subst he
    exact h x w1 x0 x1 (hO.but hr (Stab.bd hr) ⟨hO.base.1.trans hb, hR⟩ hb)

theorem own_odd {r : Nat} {w0 W : World} {P k : Int} {L : List Item} {K : Ending → World → Prop} (hO : Own w0.heap.size (Bd r w0 P) W L) (hr : r < w0.heap.size) (hP : P ≤ 1000000) (k0 : 0 ≤ k) (k1 : k ≤ 1000000)
    (h : ∀ (x : Bool) w1, Own w0.heap.size (Bd r w0 (P + 1)) w1 L → K (.returned (.bool x)) w1) :
    Calls Tryd.prog 77 #[.pointer (some ⟨r, 0, none⟩), .int .i64 k] W K :=
  (odd_any r P k W hO.base.2 hP k0 k1).mono fun e w1 ⟨x, he, hR, hb⟩ => by
    subst he
    exact h x w1 (hO.but hr (Stab.bd hr) ⟨hO.base.1.trans hb, hR⟩ hb)

/-- A reader that was made by the call moves on: what else is owned is as it was. -/
theorem Own.drawn {r : Nat} {w0 w w' : World} (hb : ButR r w w') (hr : w0.heap.size ≤ r) : ∀ {L : List Item}, (∀ x ∈ L, x.at? ≠ some r) → Own w0.heap.size (Below w0.heap.size w0) w L → Own w0.heap.size (Below w0.heap.size w0) w' L
  | [], _, h => ⟨h.1, hb.below h.2 hr⟩
  | it :: L, hL, ⟨⟨h1, h2⟩, h3⟩ => ⟨⟨h1.grown hb.grown fun g hg e => hL it (by simp) (by rw [hg, e]), h2⟩, h3.drawn hb hr (fun x hx => hL x (List.mem_cons_of_mem _ hx))⟩
theorem Own.ne_of {n r : Nat} {B : World → Prop} {w : World} {L : List Item} (h : Own n B w L) (hr : w.heap.size ≤ r) : ∀ x ∈ L, x.at? ≠ some r := fun x hx e => by have := (h.lt x hx r e).2; omega

/- l20Way: an interval is drawn. -/
open Go.RowKit

/-- An interval in a block of its own; and what of the call's memory is known beside it. -/
def LW (w0 : World) (r q : Nat) (P B : Int) (W : World) : Prop :=
  Rd W r P ∧ ButR r w0 W ∧ w0.heap.size < q ∧ q < W.heap.size ∧ (W.frozen? ⟨w0.heap.size, 0, none⟩ = false ∧ W.frozen? ⟨w0.heap.size, 1, none⟩ = false) ∧
  (∃ x y, W.cell? ⟨w0.heap.size, 0, none⟩ = some x ∧ W.cell? ⟨w0.heap.size, 1, none⟩ = some y) ∧
  (W.frozen? ⟨q, 0, none⟩ = false ∧ W.frozen? ⟨q, 1, none⟩ = false) ∧
  ∃ st ha : Int, (-100 ≤ st ∧ st ≤ 100) ∧ (-B ≤ ha ∧ ha ≤ B) ∧ W.cell? ⟨q, 0, none⟩ = some (.int .i64 st) ∧ W.cell? ⟨q, 1, none⟩ = some (.int .i64 ha)

theorem LW.picked {w0 W W' : World} {r q : Nat} {P Q B : Int} (h : LW w0 r q P B W) (hr : Rd W' r Q) (hb : ButR r W W') (hr0 : r < w0.heap.size) : LW w0 r q Q B W' := by
  obtain ⟨h1, h2, h3, h4, ⟨f0, f1⟩, ⟨x, y, c0, c1⟩, ⟨g0, g1⟩, s, a, hs, ha, d0, d1⟩ := h
  obtain ⟨hc, hf⟩ := hb.cells
  have n0 : w0.heap.size < W.heap.size := by omega
  refine ⟨hr, h2.trans hb, h3, by have := hb.size; omega, ⟨?_, ?_⟩, ⟨x, y, ?_, ?_⟩, ⟨?_, ?_⟩, s, a, hs, ha, ?_, ?_⟩
  · rw [hf _ _ n0 (by omega), f0]
  · rw [hf _ _ n0 (by omega), f1]
  · rw [hc _ _ n0 (by omega), c0]
  · rw [hc _ _ n0 (by omega), c1]
  · rw [hf _ _ h4 (by omega), g0]
  · rw [hf _ _ h4 (by omega), g1]
  · rw [hc _ _ h4 (by omega), d0]
  · rw [hc _ _ h4 (by omega), d1]

theorem LW.alloc {w0 W : World} {r q : Nat} {P B : Int} (h : LW w0 r q P B W) (hr0 : r < w0.heap.size) (o : Obj) : LW w0 r q P B (W.alloc o) :=
  h.picked (h.1.below (below1 o)) (.of_below (below1 o)) hr0
theorem LW.drew {w0 W : World} {r q : Nat} {P B : Int} (h : LW w0 r q P B W) (hr0 : r < w0.heap.size) : LW w0 r q P B W.drew :=
  h.picked (h.1.below (below_drew1 _)) (.of_below (below_drew1 _)) hr0

/-- One of the interval's numbers is set anew. -/
theorem LW.set {w0 W : World} {r q : Nat} {P B C : Int} (h : LW w0 r q P B W) (hr0 : r < w0.heap.size) (hB : B ≤ C) (i : Nat) (x : Int) (hi : (i = 0 ∧ -100 ≤ x ∧ x ≤ 100) ∨ (i = 1 ∧ -C ≤ x ∧ x ≤ C)) :
    LW w0 r q P C (W.setCell ⟨q, i, none⟩ (.int .i64 x)) := by
  obtain ⟨h1, h2, h3, h4, ⟨f0, f1⟩, ⟨u, y, c0, c1⟩, ⟨g0, g1⟩, s, a, hs, ha, d0, d1⟩ := h
  have hR : Rd (W.setCell ⟨q, i, none⟩ (.int .i64 x)) r P := h1.keep ((Below.refl _ _).setCell (by show r + 1 ≤ q; omega) _)
  refine ⟨hR, h2.setCell (Or.inl (by show w0.heap.size ≤ q; omega)) _, h3, by simpa using h4, ⟨?_, ?_⟩, ⟨u, y, ?_, ?_⟩, ⟨?_, ?_⟩, ?_⟩
  · simpa using f0
  · simpa using f1
  · rw [World.cell?_setCell_other W ⟨q, i, none⟩ _ _ (fun e => by have e2 := congrArg Addr.block e; simp at e2; omega), c0]
  · rw [World.cell?_setCell_other W ⟨q, i, none⟩ _ _ (fun e => by have e2 := congrArg Addr.block e; simp at e2; omega), c1]
  · simpa using g0
  · simpa using g1
  · rcases hi with ⟨rfl, b0, b1⟩ | ⟨rfl, b0, b1⟩
    · exact ⟨x, a, ⟨b0, b1⟩, by omega, World.cell?_setCell_same _ _ _ d0, by rw [World.cell?_setCell_other W ⟨q, 0, none⟩ _ _ (by simp), d1]⟩
    · exact ⟨s, x, hs, ⟨b0, b1⟩, by rw [World.cell?_setCell_other W ⟨q, 1, none⟩ _ _ (by simp), d0], World.cell?_setCell_same _ _ _ d1⟩

theorem LW.mono {w0 W : World} {r q : Nat} {P Q B C : Int} (h : LW w0 r q P B W) (hq : P ≤ Q) (hB : B ≤ C) : LW w0 r q Q C W := by
  obtain ⟨h1, h2, h3, h4, h5, h6, h7, s, a, hs, ha, d0, d1⟩ := h
  exact ⟨h1.mono hq, h2, h3, h4, h5, h6, h7, s, a, hs, by omega, d0, d1⟩

/-- The interval's block is laid. -/
theorem LW.start {w0 W : World} {r : Nat} {P st ha B : Int} {t t' : TypeId} (hr : Rd W r P) (hb : ButR r (w0.alloc (.cells #[.int .i64 0, .int .i64 0] t)) W) (hr0 : r < w0.heap.size) (hs : -100 ≤ st ∧ st ≤ 100) (ho : -B ≤ ha ∧ ha ≤ B) :
    LW w0 r W.heap.size P B (W.alloc (.cells #[.int .i64 st, .int .i64 ha] t')) := by
  have hz := hb.size
  simp at hz
  obtain ⟨hc, hf⟩ := hb.cells
  have n0 : w0.heap.size < (w0.alloc (.cells #[.int .i64 0, .int .i64 0] t)).heap.size := by simp
  refine ⟨hr.below (below1 _), (((ButR.refl r w0).alloc _).trans hb).alloc _, by omega, by simp, ⟨?_, ?_⟩, ⟨.int .i64 0, .int .i64 0, ?_, ?_⟩, ⟨World.frozen?_alloc_at _ _ _ _ rfl, World.frozen?_alloc_at _ _ _ _ rfl⟩, st, ha, hs, ho, by simp, by simp⟩
  · rw [((Below.refl W.heap.size W).alloc (Nat.le_refl _) _).frozen (p := ⟨w0.heap.size, 0, none⟩) (by show w0.heap.size < _; omega), hf _ _ n0 (by omega)]; exact World.frozen?_alloc_at _ _ _ _ rfl
  · rw [((Below.refl W.heap.size W).alloc (Nat.le_refl _) _).frozen (p := ⟨w0.heap.size, 1, none⟩) (by show w0.heap.size < _; omega), hf _ _ n0 (by omega)]; exact World.frozen?_alloc_at _ _ _ _ rfl
  · rw [World.cell?_alloc_lt W _ _ (by show w0.heap.size < _; omega), hc _ _ n0 (by omega)]; simp
  · rw [World.cell?_alloc_lt W _ _ (by show w0.heap.size < _; omega), hc _ _ n0 (by omega)]; simp

theorem LW.done {w0 W : World} {r q : Nat} {P Q B : Int} (h : LW w0 r q P B W) (hr0 : r < w0.heap.size) (hq : P ≤ Q) (x y : Value) :
    Rd ((W.setCell ⟨w0.heap.size, 0, none⟩ x).setCell ⟨w0.heap.size, 1, none⟩ y) r Q ∧ ButR r w0 ((W.setCell ⟨w0.heap.size, 0, none⟩ x).setCell ⟨w0.heap.size, 1, none⟩ y) :=
  ⟨(h.1.keep (((Below.refl _ _).setCell (by show r + 1 ≤ w0.heap.size; omega) _).setCell (by show r + 1 ≤ w0.heap.size; omega) _)).mono hq,
   (h.2.1.setCell (Or.inl (Nat.le_refl _)) _).setCell (Or.inl (Nat.le_refl _)) _⟩

/-- What drawing an interval leaves. -/
def DrewV (r : Nat) (P : Int) (w : World) (e : Ending) (w' : World) : Prop :=
  ∃ st ha : Int, (-100 ≤ st ∧ st ≤ 100) ∧ (-9223372036854775807 ≤ ha ∧ ha ≤ 9223372036854775807) ∧ e = .returned (.agg #[.int .i64 st, .int .i64 ha]) ∧ Rd w' r (P + 20) ∧ ButR r w w'

/-- One of six, by a number. -/
def six (x d : Int) : Int := if x = 3 then -1 else if x = 4 then 1 else if x = 5 then d else 0
theorem six_at {W W' : World} {r : Nat} {d x : Int} {t : TypeId} (hb : ButR r (W.alloc (.cells #[.int .i64 0, .int .i64 0, .int .i64 0, .int .i64 (-1), .int .i64 1, .int .i64 d] t)) W') (hr : r < W.heap.size) (x0 : 0 ≤ x) (x1 : x < 6) :
    W'.cell? ⟨W.heap.size, x.toNat, none⟩ = some (.int .i64 (six x d)) := by
  obtain ⟨hc, _⟩ := hb.cells
  rw [hc _ _ (by simp) (by omega)]
  rcases (show x = 0 ∨ x = 1 ∨ x = 2 ∨ x = 3 ∨ x = 4 ∨ x = 5 by omega) with rfl | rfl | rfl | rfl | rfl | rfl <;> simp [six]
theorem six_bd {x d : Int} (h : -3 ≤ d ∧ d ≤ 3) : -3 ≤ six x d ∧ six x d ≤ 3 := by unfold six; (repeat' split) <;> omega

/-- One of three, by a number. -/
def tri (x a b c : Int) : Int := if x = 0 then a else if x = 1 then b else c
theorem tri_at {W W' : World} {r : Nat} {a b c x : Int} {t : TypeId} (hb : ButR r (W.alloc (.cells #[.int .i64 a, .int .i64 b, .int .i64 c] t)) W') (hr : r < W.heap.size) (x0 : 0 ≤ x) (x1 : x < 3) :
    W'.cell? ⟨W.heap.size, x.toNat, none⟩ = some (.int .i64 (tri x a b c)) := by
  obtain ⟨hc, _⟩ := hb.cells
  rw [hc _ _ (by simp) (by omega)]
  rcases (show x = 0 ∨ x = 1 ∨ x = 2 by omega) with rfl | rfl | rfl <;> simp [tri]
theorem tri_bd (x : Int) : -9223372036854775807 ≤ tri x 61 (-61) 9223372036854775807 ∧ tri x 61 (-61) 9223372036854775807 ≤ 9223372036854775807 := by unfold tri; (repeat' split) <;> omega
theorem sel_at {W : World} {a b x : Int} {t : TypeId} (x0 : 0 ≤ x) (x1 : x < 2) : (W.alloc (.cells #[.int .i64 a, .int .i64 b] t)).cell? ⟨W.heap.size, x.toNat, none⟩ = some (.int .i64 (sel x a b)) := by
  rcases (show x = 0 ∨ x = 1 by omega) with rfl | rfl <;> simp [sel]
theorem sel_in {a b x : Int} (x0 : 0 ≤ x) (x1 : x < 2) : (#[Value.int .i64 a, Value.int .i64 b] : Array Value)[x.toNat]? = some (.int .i64 (sel x a b)) := by
  rcases (show x = 0 ∨ x = 1 by omega) with rfl | rfl <;> simp [sel]

/-- To what the call owns, and back. -/
theorem LW.own {w0 W : World} {r q : Nat} {P C cx cy st ha : _} (h : LW w0 r q P C W) (hr0 : r < w0.heap.size) (c0 : W.cell? ⟨w0.heap.size, 0, none⟩ = some cx) (c1 : W.cell? ⟨w0.heap.size, 1, none⟩ = some cy) (d0 : W.cell? ⟨q, 0, none⟩ = some st) (d1 : W.cell? ⟨q, 1, none⟩ = some ha) :
    Own w0.heap.size (ButR r w0) W [.blk q [st, ha], .blk w0.heap.size [cx, cy]] := by
  obtain ⟨h1, h2, h3, h4, ⟨f0, f1⟩, _, ⟨g0, g1⟩, _⟩ := h
  refine ⟨⟨⟨⟨⟨d0, g0⟩, ⟨d1, g1⟩, trivial⟩, by omega, h4⟩, ?_⟩, ⟨⟨⟨⟨c0, f0⟩, ⟨c1, f1⟩, trivial⟩, Nat.le_refl _, by omega⟩, by simp⟩, Stab.but hr0, h2⟩
  intro x hx
  simp at hx
  subst hx
  exact ⟨by show w0.heap.size ≠ q; omega, by show q ≠ w0.heap.size; omega⟩
theorem LW.of_own {w0 W : World} {r q : Nat} {P C st ha : Int} {cx cy : Value} {L : List Item} (hO : Own w0.heap.size (ButR r w0) W L) (hR : Rd W r P) (hq : Item.blk q [.int .i64 st, .int .i64 ha] ∈ L) (h0 : Item.blk w0.heap.size [cx, cy] ∈ L) (hlt : w0.heap.size < q) (hs : -100 ≤ st ∧ st ≤ 100) (ho : -C ≤ ha ∧ ha ≤ C) :
    LW w0 r q P C W := by
  obtain ⟨⟨d0, g0⟩, ⟨d1, g1⟩, _⟩ := hO.cells hq
  obtain ⟨⟨c0, f0⟩, ⟨c1, f1⟩, _⟩ := hO.cells h0
  exact ⟨hR, hO.base, hlt, (hO.lt _ hq _ rfl).2, ⟨f0, f1⟩, ⟨cx, cy, c0, c1⟩, ⟨g0, g1⟩, st, ha, hs, ho, d0, d1⟩
/-- The chosen one of two, in whatever world owns the pair. -/
theorem Own.sel_at {n : Nat} {B : World → Prop} {w : World} {b : Nat} {x a c : Int} {L : List Item} (h : Own n B w L) (hm : Item.blk b [.int .i64 a, .int .i64 c] ∈ L) (x0 : 0 ≤ x) (x1 : x < 2) : w.cell? ⟨b, x.toNat, none⟩ = some (.int .i64 (sel x a c)) := by
  obtain ⟨⟨d0, _⟩, ⟨d1, _⟩, _⟩ := h.cells hm
  rcases (show x = 0 ∨ x = 1 by omega) with rfl | rfl
  · simpa [sel] using d0
  · simpa [sel] using d1

set_option maxHeartbeats 4000000 in
theorem l20Way_any (r : Nat) (P n : Int) (w : World) (h : Rd w r P) (hP : P ≤ 900000) (n0 : 0 ≤ n) (n1 : n ≤ 1000000) :
    Calls Tryd.prog 69 #[.pointer (some ⟨r, 0, none⟩), .int .i64 n] w (DrewV r P w) := by
  have hr0 := h.lt
  go_enter Tryd.func69, Tryd.ntmps69
  go_wp2_with fail
  refine (pick_any r P 15 _ (h.below (below1 _)) (by omega) (by omega) (by omega)).mono ?_
  rintro e w1 ⟨x, x0, x1, rfl, hr1, hb1⟩
  have m1 : IntKind.i64.wrap (x - 7) = x - 7 := IntWalk.i64_in _ (by omega)
  have m2 : IntKind.i64.wrap (-(x - 7)) = -(x - 7) := IntWalk.i64_in _ (by omega)
  have HM := hid (And.intro m1 m2)
  clear m1 m2
  have nb : ∀ p : Int, 0 ≤ p → p ≤ 7 → 0 ≤ natZ p ∧ natZ p ≤ 23 := fun p h0 h7 => by have := natZ_bd h0; omega
  have NB := hid nb
  clear nb
  obtain ⟨m1, m2⟩ := HM.out
  go_upto_region 2 with fail
  go_cut [6] (fun s6 wx => ∃ q : Nat, s6 = .pointer (some ⟨q, 0, none⟩) ∧ LW w r q (P + 3) 100 wx)
  case first =>
    go_wp2_with (first
      | (go_at_call 90; refine (natural_any _ _ (by omega) (by omega)).mono ?_; rintro e w2 ⟨rfl, hb2⟩; have hr2 := hr1.below hb2; have hb12 := hb1.trans (ButR.of_below hb2))
      | (go_at_call 51; refine (pick_any _ _ _ _ hr2 (by omega) (by omega) (by omega)).mono ?_; rintro e w3 ⟨y, y0, y1, rfl, hr3, hb3⟩; have hb13 := hb12.trans hb3; clear hr2; have m3 : IntKind.i64.wrap (y - 3) = y - 3 := IntWalk.i64_in _ (by omega))
      | (go_at_call 51; refine (pick_any _ _ _ _ (hr3.below (below1 _)) (by omega) (by omega) (by omega)).mono ?_; rintro e w4 ⟨z, z0, z1, rfl, hr4, hb4⟩; have hsx := six_at hb4 hr3.lt z0 z1; have hsb := six_bd (x := z) (d := y - 3) (by omega);
          (first | (have hnb := NB.out (x - 7) (by omega) (by omega); have m4 : IntKind.i64.wrap (natZ (x - 7) + six z (y - 3)) = natZ (x - 7) + six z (y - 3) := IntWalk.i64_in _ (by omega)) | (have hnb := NB.out (-(x - 7)) (by omega) (by omega); have m4 : IntKind.i64.wrap (natZ (-(x - 7)) + six z (y - 3)) = natZ (-(x - 7)) + six z (y - 3) := IntWalk.i64_in _ (by omega)))))
    all_goals go_meet
    all_goals exact ⟨_, rfl, (LW.start (B := 100) hr4 ((hb13.alloc _).trans hb4) hr0 (by omega) (by omega)).mono (by omega) (by omega)⟩
  case rest =>
    obtain ⟨q, rfl, hL⟩ := hcut
    clear hr1 hb1 m1 m2 HM NB
    obtain ⟨_, _, hq0, hq1, ⟨f0, f1⟩, ⟨cx, cy, c0, c1⟩, ⟨g0, g1⟩, st, ha, hst, hha, d0, d1⟩ := id hL
    have m1 : IntKind.i64.wrap (-ha) = -ha := IntWalk.i64_in _ (by omega)
    go_upto_if 27 with fail
    go_cut [6] (fun s6 wx => s6 = .pointer (some ⟨q, 0, none⟩) ∧ LW w r q (P + 3) 100 wx)
    case first =>
      go_wp2_with fail
      · go_meet
        exact ⟨rfl, hL.set hr0 (by omega) 1 (-ha) (by omega)⟩
      · go_meet
        exact ⟨rfl, hL⟩
    case rest =>
      clear hL hq0 hq1 f0 f1 c0 c1 g0 g1 d0 d1 m1 hst hha
      obtain ⟨rfl, hL⟩ := hcut
      go_upto_if 34 with (go_at_call 77; refine (odd_any _ _ _ _ hL.1 (by omega) (by omega) (by omega)).mono ?_; rintro e w3 ⟨bo, rfl, hr1, hb1⟩; have hL := hL.picked hr1 hb1 hr0; clear hr1 hb1; obtain ⟨_, _, hq0, hq1, ⟨f0, f1⟩, ⟨cx, cy, c0, c1⟩, ⟨g0, g1⟩, st, ha, hst, hha, d0, d1⟩ := id hL)
      go_cut [6] (fun s6 wx => s6 = .pointer (some ⟨q, 0, none⟩) ∧ LW w r q (P + 6) 9223372036854775807 wx)
      case first =>
        go_wp2_with (first
          | (go_at_call 51; refine (pick_any _ _ _ _ hL.1 (by omega) (by omega) (by omega)).mono ?_; rintro e w3 ⟨x, x0, x1, rfl, hr1, hb1⟩; have hL := hL.picked hr1 hb1 hr0; clear hr1 hb1; obtain ⟨_, _, hq0, hq1, ⟨f0, f1⟩, ⟨cx, cy, c0, c1⟩, ⟨g0, g1⟩, st, ha, hst, hha, d0, d1⟩ := id hL)
          | (go_at_call 51; refine (pick_any _ _ _ _ (hL.alloc hr0 _).1 (by omega) (by omega) (by omega)).mono ?_; rintro e w3 ⟨x, x0, x1, rfl, hr1, hb1⟩; have hp := pair_at hb1 (Nat.lt_trans hr0 (Nat.lt_trans hL.2.2.1 hL.2.2.2.1)) x0 x1; have hL := (hL.alloc hr0 _).picked hr1 hb1 hr0; clear hr1 hb1; obtain ⟨_, _, hq0, hq1, ⟨f0, f1⟩, ⟨cx, cy, c0, c1⟩, ⟨g0, g1⟩, st, ha, hst, hha, d0, d1⟩ := id hL)
          | (go_at_call 51; refine (pick_any _ _ _ _ (hL.alloc hr0 _).1 (by omega) (by omega) (by omega)).mono ?_; rintro e w3 ⟨x, x0, x1, rfl, hr1, hb1⟩; have hp := tri_at hb1 (Nat.lt_trans hr0 (Nat.lt_trans hL.2.2.1 hL.2.2.2.1)) x0 x1; have hL := (hL.alloc hr0 _).picked hr1 hb1 hr0; clear hr1 hb1; obtain ⟨_, _, hq0, hq1, ⟨f0, f1⟩, ⟨cx, cy, c0, c1⟩, ⟨g0, g1⟩, st, ha, hst, hha, d0, d1⟩ := id hL))
        all_goals first
          | (go_meet; exact ⟨rfl, (hL.set hr0 (C := 9223372036854775807) (by omega) 0 (sel x (-22) 22) (by have := sel_or x (-22) 22; omega)).mono (by omega) (by omega)⟩)
          | (go_meet; exact ⟨rfl, (hL.set hr0 (C := 9223372036854775807) (by omega) 1 (tri x 61 (-61) 9223372036854775807) (by have := tri_bd x; omega)).mono (by omega) (by omega)⟩)
          | (go_meet; exact ⟨rfl, hL.mono (by omega) (by omega)⟩)
          | skip
        have hO := hL.own hr0 c0 c1 d0 d1
        have hR : Rd w3 r (P + 5 + 0) := hL.1.mono (by omega)
        have hF := True.intro
        clear hL c0 c1 d0 d1 f0 f1 g0 g1
        apply own_code hO
        (repeat (first | (with_reducible exact hO) | (with_reducible apply Own.alloc) | (with_reducible apply Own.drew) | ((with_reducible apply Own.set_at); (focus (show _ ≤ _; omega)))))
        have hG := hF; clear hF; clear hO; intro hO
        (try simp only [World.size_alloc1, World.size_drew, Nat.reduceAdd] at hO); (try simp only [upd, updI, List.map_cons, List.map_nil, eq_self, if_true, if_false, reduceIte, Nat.add_eq_left, Nat.left_eq_add, Nat.reduceEqDiff, List.set_cons_zero, List.set_cons_succ, hG] at hO); clear hG
        refine region_own (X := fun W => Rd W r (P + 5 + 0)) [9] (by kernel_rfl) (hO) (hR) (by first | exact XStab.true | exact XStab.rd | exact XStab.rdIf) ?_
        clear hO
        refine Sim.sP (i := 0) (d := some 45) (h := ?_)
        refine Sim.sO (i := 1) (d := some 46) (v := ?_) (hy := ?_) (h := ?_)
        rotate_left
        · first | refine Or.inl ⟨by rfl, fun w hO => ?_⟩ | (refine Or.inr ⟨by rfl, ?_⟩; with_reducible rfl)
          first | done | (have hF := hO; (try simp only [Own, Item.Holds, apartI, CellsAt, Nat.reduceAdd, Nat.zero_add, List.mem_cons, List.not_mem_nil, or_false, forall_eq_or_imp, forall_eq, ne_eq, false_imp_iff, implies_true, and_true] at hF); (try have hsel := hO.sel_at (a := 9) (c := -9) (by first | exact List.mem_cons_self | exact List.mem_cons_of_mem _ List.mem_cons_self) (by assumption) (by assumption)); refine Out.same ?_; go_simp; all_goals with_reducible rfl)
        refine Sim.sP (i := 3) (d := some 48) (h := ?_)
        refine Sim.many (rs := [2, 4]) (by kernel_rfl) (by decide) ?_
        refine AllS.cons (oi := { dst := some 47, op := Op.buildSlice 99 2 #[(0, Operand.const (Value.int IntKind.i64 9)), (1, Operand.const (Value.int IntKind.i64 (-9)))], type := 99, pos := "l20_draw.go:109", after := #[], guard := none }) rfl (by rfl) (fun w0 hO hX K hK => ?_) ?_
        rotate_left
        refine AllS.cons (oi := { dst := some 49, op := Op.call { callee := Callee.value (Operand.func 51), args := #[Operand.tmp 48, Operand.const (Value.int IntKind.i64 2)], argTypes := #[66, 3] }, type := 3, pos := "l20_draw.go:109", after := #[{ on := 3, ground := Ground.data }], guard := none }) rfl (by rfl) (fun w0 hO hX K hK => ?_) ?_
        rotate_left
        exact AllS.nil
        rotate_right 2
        have hF := hO; (try simp only [Own, Item.Holds, apartI, CellsAt, Nat.reduceAdd, Nat.zero_add, List.mem_cons, List.not_mem_nil, or_false, forall_eq_or_imp, forall_eq, ne_eq, false_imp_iff, implies_true, and_true] at hF)
        go_simp
        apply hK _ _ _ (fun W => Rd W r (P + 5 + 0))
        (repeat (first | (with_reducible exact hO) | (with_reducible apply Own.alloc) | (with_reducible apply Own.drew) | ((with_reducible apply Own.set_at); (focus (show _ ≤ _; omega)))))
        · first | exact trivial | exact hX | exact hX.below (below1 _) | exact RdIf.gone | exact hX.keep ((Below.refl _ _).setCell (by first | omega | (dsimp only; omega)) _)
        · exact (by first | exact XStab.true | exact XStab.rd | exact XStab.rdIf)
        · first | exact fun _ _ h => h.2 | exact fun _ _ h => h | exact fun h => absurd h (by decide)
        try simp only [upd, updI, List.map_cons, List.map_nil, eq_self, if_true, if_false, reduceIte, Nat.add_eq_left, Nat.left_eq_add, Nat.reduceEqDiff, List.set_cons_zero, List.set_cons_succ, hF]
        clear hK K hF hO
        try simp only [Act.put, List.setIfInBounds_toArray, List.set_cons_zero, List.set_cons_succ]
        refine Sim.one' (i := 4) (oi := { dst := some 49, op := Op.call { callee := Callee.value (Operand.func 51), args := #[Operand.tmp 48, Operand.const (Value.int IntKind.i64 2)], argTypes := #[66, 3] }, type := 3, pos := "l20_draw.go:109", after := #[{ on := 3, ground := Ground.data }], guard := none }) (by kernel_rfl) rfl (by rfl) (fun w0 hO hX K hK => ?_)
        have hF := hO; (try simp only [Own, Item.Holds, apartI, CellsAt, Nat.reduceAdd, Nat.zero_add, List.mem_cons, List.not_mem_nil, or_false, forall_eq_or_imp, forall_eq, ne_eq, false_imp_iff, implies_true, and_true] at hF)
        go_simp
        refine (pick_any r (P + 5 + 0) 2 _ hX (by omega) (by omega) (by omega)).mono ?_
        rintro e w4 ⟨x2, y0, y1, rfl, hR4, hB4⟩
        have m5 : IntKind.i64.wrap (ha + sel x2 9 (-9)) = ha + sel x2 9 (-9) := IntWalk.i64_in _ (by have := sel_or x2 9 (-9); omega)
        apply hK _ _ _ (fun W => Rd W r (P + 5 + 1))
        · exact Own.but hr0 (Stab.but hr0) (hO.base.trans hB4) hB4 hO
        · exact hR4.mono (by omega)
        · exact XStab.rd
        · exact fun _ _ h => h
        clear hR4 hB4
        clear hK K hF hO
        try simp only [Act.put, List.setIfInBounds_toArray, List.set_cons_zero, List.set_cons_succ]
        refine Sim.sP (i := 5) (d := some 50) (h := ?_)
        refine Sim.sO (i := 6) (d := some 51) (v := ?_) (hy := ?_) (h := ?_)
        rotate_left
        · first | refine Or.inl ⟨by rfl, fun w hO => ?_⟩ | (refine Or.inr ⟨by rfl, ?_⟩; with_reducible rfl)
          first | done | (have hF := hO; (try simp only [Own, Item.Holds, apartI, CellsAt, Nat.reduceAdd, Nat.zero_add, List.mem_cons, List.not_mem_nil, or_false, forall_eq_or_imp, forall_eq, ne_eq, false_imp_iff, implies_true, and_true] at hF); (try have hsel := hO.sel_at (a := 9) (c := -9) (by first | exact List.mem_cons_self | exact List.mem_cons_of_mem _ List.mem_cons_self) (by assumption) (by assumption)); refine Out.same ?_; go_simp; all_goals with_reducible rfl)
        refine Sim.sP (i := 7) (d := some 52) (h := ?_)
        refine Sim.sP (i := 8) (d := some 53) (h := ?_)
        refine Sim.one' (i := 9) (oi := { dst := none, op := Op.store 3 (Operand.tmp 53) (Operand.tmp 52), type := 0, pos := "l20_draw.go:109", after := #[{ on := 8, ground := Ground.data }, { on := 7, ground := Ground.data }, { on := 4, ground := Ground.chain }, { on := 0, ground := Ground.phase }, { on := 1, ground := Ground.phase }, { on := 2, ground := Ground.phase }, { on := 3, ground := Ground.phase }, { on := 4, ground := Ground.phase }, { on := 5, ground := Ground.phase }, { on := 6, ground := Ground.phase }, { on := 7, ground := Ground.phase }], guard := none }) (by kernel_rfl) rfl (by rfl) (fun w0 hO hX K hK => ?_)
        have hF := hO; (try simp only [Own, Item.Holds, apartI, CellsAt, Nat.reduceAdd, Nat.zero_add, List.mem_cons, List.not_mem_nil, or_false, forall_eq_or_imp, forall_eq, ne_eq, false_imp_iff, implies_true, and_true] at hF); (try have hsel := hO.sel_at (a := 9) (c := -9) (by first | exact List.mem_cons_self | exact List.mem_cons_of_mem _ List.mem_cons_self) (by assumption) (by assumption))
        go_simp
        apply hK _ _ _ (fun W => Rd W r (P + 5 + 1))
        (repeat (first | (with_reducible exact hO) | (with_reducible apply Own.alloc) | (with_reducible apply Own.drew) | ((with_reducible apply Own.set_at); (focus (show _ ≤ _; omega)))))
        · first | exact trivial | exact hX | exact hX.below (below1 _) | exact RdIf.gone | exact hX.keep ((Below.refl _ _).setCell (by first | omega | (dsimp only; omega)) _)
        · exact (by first | exact XStab.true | exact XStab.rd | exact XStab.rdIf)
        · first | exact fun _ _ h => h.2 | exact fun _ _ h => h | exact fun h => absurd h (by decide)
        try simp only [upd, updI, List.map_cons, List.map_nil, eq_self, if_true, if_false, reduceIte, Nat.add_eq_left, Nat.left_eq_add, Nat.reduceEqDiff, List.set_cons_zero, List.set_cons_succ, hF]
        clear hK K hF hO
        try simp only [Act.put, List.setIfInBounds_toArray, List.set_cons_zero, List.set_cons_succ]
        refine Sim.done (by kernel_rfl) (fun w1 hO hX => ?_) _
        (try simp only [World.size_alloc1, World.size_drew, Nat.reduceAdd] at hO); (try simp only [upd, updI, List.map_cons, List.map_nil, eq_self, if_true, if_false, reduceIte, Nat.add_eq_left, Nat.left_eq_add, Nat.reduceEqDiff, List.set_cons_zero, List.set_cons_succ] at hO)
        have hF := hO; (try simp only [Own, Item.Holds, apartI, CellsAt, Nat.reduceAdd, Nat.zero_add, List.mem_cons, List.not_mem_nil, or_false, forall_eq_or_imp, forall_eq, ne_eq, false_imp_iff, implies_true, and_true] at hF)
        rotate_left 1
        have hF := hO; (try simp only [Own, Item.Holds, apartI, CellsAt, Nat.reduceAdd, Nat.zero_add, List.mem_cons, List.not_mem_nil, or_false, forall_eq_or_imp, forall_eq, ne_eq, false_imp_iff, implies_true, and_true] at hF)
        go_simp
        refine (pick_any r (P + 5 + 0) 2 _ hX (by omega) (by omega) (by omega)).mono ?_
        rintro e w4 ⟨x2, y0, y1, rfl, hR4, hB4⟩
        have m5 : IntKind.i64.wrap (ha + sel x2 9 (-9)) = ha + sel x2 9 (-9) := IntWalk.i64_in _ (by have := sel_or x2 9 (-9); omega)
        apply hK _ _ _ (fun W => Rd W r (P + 5 + 1))
        · exact Own.but hr0 (Stab.but hr0) (hO.base.trans hB4) hB4 hO
        · exact hR4.mono (by omega)
        · exact XStab.rd
        · exact fun _ _ h => h
        clear hR4 hB4
        clear hK K hF hO
        try simp only [Act.put, List.setIfInBounds_toArray, List.set_cons_zero, List.set_cons_succ]
        refine Sim.one' (i := 2) (oi := { dst := some 47, op := Op.buildSlice 99 2 #[(0, Operand.const (Value.int IntKind.i64 9)), (1, Operand.const (Value.int IntKind.i64 (-9)))], type := 99, pos := "l20_draw.go:109", after := #[], guard := none }) (by kernel_rfl) rfl (by rfl) (fun w0 hO hX K hK => ?_)
        have hF := hO; (try simp only [Own, Item.Holds, apartI, CellsAt, Nat.reduceAdd, Nat.zero_add, List.mem_cons, List.not_mem_nil, or_false, forall_eq_or_imp, forall_eq, ne_eq, false_imp_iff, implies_true, and_true] at hF)
        go_simp
        apply hK _ _ _ (fun W => Rd W r (P + 5 + 1))
        (repeat (first | (with_reducible exact hO) | (with_reducible apply Own.alloc) | (with_reducible apply Own.drew) | ((with_reducible apply Own.set_at); (focus (show _ ≤ _; omega)))))
        · first | exact trivial | exact hX | exact hX.below (below1 _) | exact RdIf.gone | exact hX.keep ((Below.refl _ _).setCell (by first | omega | (dsimp only; omega)) _)
        · exact (by first | exact XStab.true | exact XStab.rd | exact XStab.rdIf)
        · first | exact fun _ _ h => h.2 | exact fun _ _ h => h | exact fun h => absurd h (by decide)
        try simp only [upd, updI, List.map_cons, List.map_nil, eq_self, if_true, if_false, reduceIte, Nat.add_eq_left, Nat.left_eq_add, Nat.reduceEqDiff, List.set_cons_zero, List.set_cons_succ, hF]
        clear hK K hF hO
        try simp only [Act.put, List.setIfInBounds_toArray, List.set_cons_zero, List.set_cons_succ]
        refine Sim.sP (i := 5) (d := some 50) (h := ?_)
        refine Sim.sO (i := 6) (d := some 51) (v := ?_) (hy := ?_) (h := ?_)
        rotate_left
        · first | refine Or.inl ⟨by rfl, fun w hO => ?_⟩ | (refine Or.inr ⟨by rfl, ?_⟩; with_reducible rfl)
          first | done | (have hF := hO; (try simp only [Own, Item.Holds, apartI, CellsAt, Nat.reduceAdd, Nat.zero_add, List.mem_cons, List.not_mem_nil, or_false, forall_eq_or_imp, forall_eq, ne_eq, false_imp_iff, implies_true, and_true] at hF); (try have hsel := hO.sel_at (a := 9) (c := -9) (by first | exact List.mem_cons_self | exact List.mem_cons_of_mem _ List.mem_cons_self) (by assumption) (by assumption)); refine Out.same ?_; go_simp; all_goals with_reducible rfl)
        refine Sim.sP (i := 7) (d := some 52) (h := ?_)
        refine Sim.sP (i := 8) (d := some 53) (h := ?_)
        refine Sim.one' (i := 9) (oi := { dst := none, op := Op.store 3 (Operand.tmp 53) (Operand.tmp 52), type := 0, pos := "l20_draw.go:109", after := #[{ on := 8, ground := Ground.data }, { on := 7, ground := Ground.data }, { on := 4, ground := Ground.chain }, { on := 0, ground := Ground.phase }, { on := 1, ground := Ground.phase }, { on := 2, ground := Ground.phase }, { on := 3, ground := Ground.phase }, { on := 4, ground := Ground.phase }, { on := 5, ground := Ground.phase }, { on := 6, ground := Ground.phase }, { on := 7, ground := Ground.phase }], guard := none }) (by kernel_rfl) rfl (by rfl) (fun w0 hO hX K hK => ?_)
        have hF := hO; (try simp only [Own, Item.Holds, apartI, CellsAt, Nat.reduceAdd, Nat.zero_add, List.mem_cons, List.not_mem_nil, or_false, forall_eq_or_imp, forall_eq, ne_eq, false_imp_iff, implies_true, and_true] at hF); (try have hsel := hO.sel_at (a := 9) (c := -9) (by first | exact List.mem_cons_self | exact List.mem_cons_of_mem _ List.mem_cons_self) (by assumption) (by assumption))
        go_simp
        apply hK _ _ _ (fun W => Rd W r (P + 5 + 1))
        (repeat (first | (with_reducible exact hO) | (with_reducible apply Own.alloc) | (with_reducible apply Own.drew) | ((with_reducible apply Own.set_at); (focus (show _ ≤ _; omega)))))
        · first | exact trivial | exact hX | exact hX.below (below1 _) | exact RdIf.gone | exact hX.keep ((Below.refl _ _).setCell (by first | omega | (dsimp only; omega)) _)
        · exact (by first | exact XStab.true | exact XStab.rd | exact XStab.rdIf)
        · first | exact fun _ _ h => h.2 | exact fun _ _ h => h | exact fun h => absurd h (by decide)
        try simp only [upd, updI, List.map_cons, List.map_nil, eq_self, if_true, if_false, reduceIte, Nat.add_eq_left, Nat.left_eq_add, Nat.reduceEqDiff, List.set_cons_zero, List.set_cons_succ, hF]
        clear hK K hF hO
        try simp only [Act.put, List.setIfInBounds_toArray, List.set_cons_zero, List.set_cons_succ]
        refine Sim.done (by kernel_rfl) (fun w1 hO hX => ?_) _
        (try simp only [World.size_alloc1, World.size_drew, Nat.reduceAdd] at hO); (try simp only [upd, updI, List.map_cons, List.map_nil, eq_self, if_true, if_false, reduceIte, Nat.add_eq_left, Nat.left_eq_add, Nat.reduceEqDiff, List.set_cons_zero, List.set_cons_succ] at hO)
        have hF := hO; (try simp only [Own, Item.Holds, apartI, CellsAt, Nat.reduceAdd, Nat.zero_add, List.mem_cons, List.not_mem_nil, or_false, forall_eq_or_imp, forall_eq, ne_eq, false_imp_iff, implies_true, and_true] at hF)
        rotate_left 1
        all_goals (go_wp2_with fail; go_meet)
        all_goals exact ⟨rfl, LW.of_own (st := st) (ha := ha + sel x2 9 (-9)) (cx := cx) (cy := cy) hO (hX.mono (by omega)) (by simp) (by simp) (by omega) (by omega) (by have := sel_or x2 9 (-9); omega)⟩
      case rest =>
        clear hL
        obtain ⟨rfl, hL⟩ := hcut
        obtain ⟨_, _, hq0, hq1, ⟨f0, f1⟩, ⟨cx, cy, c0, c1⟩, ⟨g0, g1⟩, st, ha, hst, hha, d0, d1⟩ := id hL
        go_wp2
        refine bodyPost_ret (v := .agg #[.int .i64 st, .int .i64 ha]) (by simp [results, Tryd.results69, go_sem, c0, c1]) rfl ⟨st, ha, hst, hha, rfl, ?_⟩
        exact hL.done hr0 (by omega) _ _

/- The functions that draw one pitch for a law of chapter 1; alive. -/
open Go.RowKit

theorem BytesB.alloc {w : World} {v : Value} {n : Nat} (h : BytesB w w.heap.size v n) (o : Obj) : BytesB (w.alloc o) (w.alloc o).heap.size v n := by
  rcases h with h | ⟨h0, b, off, cap, h1, h2, h3, h4, h5, h6⟩
  · exact Or.inl h
  · refine Or.inr ⟨h0, b, off, cap, h1, h2, h3, by simp; omega, by simp; omega, fun i hi => ?_⟩
    obtain ⟨z, z0, z1, hz⟩ := h6 i hi
    exact ⟨z, z0, z1, by rw [World.cell?_alloc_lt _ _ _ h5, hz]⟩

/-- A block of three zeros, laid before the reader was opened, stands as it was laid. -/
theorem zero3 {w w1 w2 : World} {r : Nat} {t : TypeId} (hb : Below (w.alloc (.cells #[.int .i64 0, .int .i64 0, .int .i64 0] t)).heap.size (w.alloc (.cells #[.int .i64 0, .int .i64 0, .int .i64 0] t)) w1)
    (hr : (w.alloc (.cells #[.int .i64 0, .int .i64 0, .int .i64 0] t)).heap.size ≤ r) (h2 : ButR r w1 w2) :
    (w2.cell? ⟨w.heap.size, 0, none⟩ = some (.int .i64 0) ∧ w2.cell? ⟨w.heap.size, 1, none⟩ = some (.int .i64 0) ∧ w2.cell? ⟨w.heap.size, 2, none⟩ = some (.int .i64 0)) ∧
    (w2.frozen? ⟨w.heap.size, 0, none⟩ = false ∧ w2.frozen? ⟨w.heap.size, 1, none⟩ = false ∧ w2.frozen? ⟨w.heap.size, 2, none⟩ = false) ∧ Below w.heap.size w w2 := by
  obtain ⟨c1, f1⟩ := bcell hb
  obtain ⟨c2, f2⟩ := h2.cells
  have hz := hb.size
  simp at hz hr
  have n1 : w.heap.size < (w.alloc (.cells #[.int .i64 0, .int .i64 0, .int .i64 0] t)).heap.size := by simp
  refine ⟨⟨?_, ?_, ?_⟩, ⟨?_, ?_, ?_⟩, h2.below (boxed1 hb) (by omega)⟩
  · rw [c2 _ _ (by omega) (by omega), c1 _ _ n1]; simp
  · rw [c2 _ _ (by omega) (by omega), c1 _ _ n1]; simp
  · rw [c2 _ _ (by omega) (by omega), c1 _ _ n1]; simp
  · rw [f2 _ _ (by omega) (by omega), f1 _ _ n1]; exact World.frozen?_alloc_at _ _ _ _ rfl
  · rw [f2 _ _ (by omega) (by omega), f1 _ _ n1]; exact World.frozen?_alloc_at _ _ _ _ rfl
  · rw [f2 _ _ (by omega) (by omega), f1 _ _ n1]; exact World.frozen?_alloc_at _ _ _ _ rfl

theorem below_set3 {w W : World} (h : Below w.heap.size w W) (x y z : Value) :
    Below w.heap.size w (((W.setCell ⟨w.heap.size, 0, none⟩ x).setCell ⟨w.heap.size, 1, none⟩ y).setCell ⟨w.heap.size, 2, none⟩ z) :=
  ((h.setCell (Nat.le_refl _) _).setCell (Nat.le_refl _) _).setCell (Nat.le_refl _) _

/-- What drawing a pitch for a law leaves. -/
def DrewP (w : World) (e : Ending) (w' : World) : Prop :=
  ∃ s a o : Int, (-1 ≤ s ∧ s ≤ 7) ∧ (-3 ≤ a ∧ a ≤ 3) ∧ (-1 ≤ o ∧ o ≤ 9) ∧ e = .returned (.agg #[.int .i64 s, .int .i64 a, .int .i64 o]) ∧ Below w.heap.size w w'

theorem key_57 : keyZ 5 0 4 = 57 := by decide

set_option maxHeartbeats 1000000 in
theorem alive_any (w : World) (ht : TabH w) :
    Calls Tryd.prog 19 #[] w fun e w' => e = .returned (.bool true) ∧ Below w.heap.size w w' := by
  have hk := key_57
  go_enter Tryd.func19, Tryd.ntmps19
  go_wp2_with (go_at_call 47; refine (keyI_any _ _ _ _ ht).mono ?_; rintro e w1 ⟨rfl, hb⟩)
  go_ret
  exact ⟨rfl, hb⟩

/- A pitch is drawn; one of a row of numbers that is owned. -/
open Go.RowKit

theorem own_pitch {r : Nat} {w0 W : World} {P n : Int} {L : List Item} {K : Ending → World → Prop} (hO : Own w0.heap.size (Bd r w0 P) W L) (hr : r < w0.heap.size) (hP : P ≤ 900000) (n0 : 0 ≤ n) (n1 : n ≤ 1000000)
    (h : ∀ (s a o : Int) w1, (-1 ≤ s ∧ s ≤ 7) → (-3 ≤ a ∧ a ≤ 3) → (-1 ≤ o ∧ o ≤ 9) → Own w0.heap.size (Bd r w0 (P + 20)) w1 L → K (.returned (.agg #[.int .i64 s, .int .i64 a, .int .i64 o])) w1) :
    Calls Tryd.prog 95 #[.pointer (some ⟨r, 0, none⟩), .int .i64 n] W K :=
  (l20Pitch_any r P n W hO.base.2 hP n0 n1).mono fun e w1 ⟨s, a, o, hs, ha, ho, he, hR, hb⟩ => by
    subst he
    exact h s a o w1 hs ha ho (hO.but hr (Stab.bd hr) ⟨hO.base.1.trans hb, hR⟩ hb)
/-- One of a row of numbers in a block that is owned: its bounds. -/

theorem Own.num_in {n : Nat} {B : World → Prop} {w : World} {b : Nat} {x lo hi : Int} {L : List Item} (us : List Int) (h : Own n B w L) (hm : Item.blk b (us.map (Value.int .i64)) ∈ L) (x0 : 0 ≤ x) (x1 : x < us.length) (hb : ∀ u ∈ us, lo ≤ u ∧ u ≤ hi) :
    ∃ u, (lo ≤ u ∧ u ≤ hi) ∧ w.cell? ⟨b, x.toNat, none⟩ = some (.int .i64 u) := by
  obtain ⟨u, hu, hc⟩ := h.int_some us hm x0 x1
  exact ⟨u, hb u hu, hc⟩
end Go.Proofs.YtcgcnkddgihkpaaDoor
