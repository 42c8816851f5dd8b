/- pick and odd: the reader of a code moves on, and what it answers is in range. -/
import Derived.Test.YtcmhfjpofkgjbaaDoorRows
import Derived.Test.YtcmhfjpofkgjbaaDoorDrawBase
import Derived.WalkKit
import Derived.WalkSpells
import Derived.WalkLawsBesides
import Derived.Deep.QuietTactic
import Derived.BigQuiet
namespace Go.Proofs.YtcmhfjpofkgjbaaDoor
set_option linter.unusedSimpArgs false
set_option linter.unusedVariables false
set_option maxRecDepth 8000
open Go.RowKit

set_option maxHeartbeats 2000000 in
theorem pick_nil (r : Nat) (P n p : Int) (a : Option Addr) (c : Nat) (w : World) (hP : P ≤ 1000000) (n0 : 1 ≤ n) (n1 : n ≤ 1000000)
    (h2 : 0 ≤ p) (h3 : p ≤ P) (h4 : r < w.heap.size) (h5 : w.cell? ⟨r, 0, none⟩ = some (.slice a 0 c)) (h6 : w.cell? ⟨r, 1, none⟩ = some (.int .i64 p)) (h7 : w.frozen? ⟨r, 1, none⟩ = false) :
    Calls Tryd.prog 43 #[.pointer (some ⟨r, 0, none⟩), .int .i64 n] w (Picked n r P w) := by
  have hp1 : p + 1 ≤ 1000001 := by omega
  go_enter Tryd.func43, Tryd.ntmps43
  go_wp2
  go_ret
  have hm := Rd.moved (P := P) (n := 0) 0 (by omega) h2 h3 h4 h5 h6 h7 (Or.inl ⟨rfl, a, c, rfl⟩)
  exact ⟨0, by omega, by omega, rfl, hm.1, hm.2⟩

set_option maxHeartbeats 2000000 in
theorem pick_low (r : Nat) (P n p : Int) (b off len cap : Nat) (w : World) (hP : P ≤ 1000000) (n0 : 1 ≤ n) (n1 : n ≤ 1000000) (hl0 : 0 < len) (hl : len ≤ 2000) (hcap : len ≤ cap) (hcm : cap ≤ maxLen) (hbr : b < r) (hbw : b < w.heap.size)
    (hby : ∀ i, i < len → ∃ z : Int, 0 ≤ z ∧ z ≤ 255 ∧ w.cell? ⟨b, off + i, none⟩ = some (.int .u8 z))
    (h2 : 0 ≤ p) (h3 : p ≤ P) (hlt : p < len) (h4 : r < w.heap.size) (h5 : w.cell? ⟨r, 0, none⟩ = some (.slice (some ⟨b, off, none⟩) len cap)) (h6 : w.cell? ⟨r, 1, none⟩ = some (.int .i64 p)) (h7 : w.frozen? ⟨r, 1, none⟩ = false) :
    Calls Tryd.prog 43 #[.pointer (some ⟨r, 0, none⟩), .int .i64 n] w (Picked n r P w) := by
  obtain ⟨k, rfl⟩ : ∃ k : Nat, p = (k : Int) := ⟨p.toNat, by omega⟩
  obtain ⟨z, z0, z1, hz⟩ := hby k (by omega)
  have hm := fun j => Rd.moved (P := P) j hl h2 h3 h4 h5 h6 h7 (Or.inr ⟨hl0, b, off, cap, hcap, hcm, rfl, hbr, hbw, hby⟩)
  have hne : b ≠ r := by omega
  unfold maxLen at hcm
  clear hby
  have hlb : ((len : Int) == 0) = false := by simp; omega
  have hmz := z.emod_nonneg (b := n) (by omega)
  have hmz2 := Int.emod_lt_of_pos z (b := n) (by omega)
  go_enter Tryd.func43, Tryd.ntmps43
  go_wp2
  go_ret
  exact ⟨z % n, hmz, hmz2, rfl, (hm 0).1, (hm 0).2⟩

theorem tmod_nat {a : Int} {len : Nat} (ha : 0 ≤ a) (hl : 0 < len) : ∃ m : Nat, m < len ∧ a.tmod len = m := by
  have h1 := Int.emod_nonneg a (b := (len : Int)) (by omega)
  have h2 := Int.emod_lt_of_pos a (b := (len : Int)) (by omega)
  refine ⟨(a % len).toNat, by omega, ?_⟩
  rw [Int.tmod_eq_emod_of_nonneg ha]
  omega
theorem tdiv_small {a : Int} {len : Nat} (ha : 0 ≤ a) (hl : 0 < len) : ∃ q : Int, 0 ≤ q ∧ q ≤ a ∧ a.tdiv len = q := by
  refine ⟨a / len, Int.ediv_nonneg ha (by omega), Int.ediv_le_self _ ha, ?_⟩
  rw [Int.tdiv_eq_ediv_of_nonneg ha]

theorem xor_i64_nat (a b : Nat) (ha : a < 2 ^ 62) (hb : b < 2 ^ 62) : bits .xor .i64 (a : Int) (b : Int) = ((a ^^^ b : Nat) : Int) := by
  have hx : a ^^^ b < 2 ^ 62 := Nat.xor_lt_two_pow ha hb
  have ha' : a % 2 ^ IntKind.i64.bits = a := Nat.mod_eq_of_lt (by simp only [IntKind.bits]; omega)
  have hb' : b % 2 ^ IntKind.i64.bits = b := Nat.mod_eq_of_lt (by simp only [IntKind.bits]; omega)
  simp only [bits, BitVec.ofInt_natCast, BitVec.toNat_xor, BitVec.toNat_ofNat, ha', hb']
  rw [IntKind.wrap_i64]
  omega
theorem xor_i64 {a b : Int} (a0 : 0 ≤ a) (a1 : a ≤ 1000000000) (b0 : 0 ≤ b) (b1 : b ≤ 1000000000) : 0 ≤ bits .xor .i64 a b := by
  obtain ⟨m, rfl⟩ : ∃ m : Nat, a = m := ⟨a.toNat, by omega⟩
  obtain ⟨n, rfl⟩ : ∃ n : Nat, b = n := ⟨b.toNat, by omega⟩
  rw [xor_i64_nat m n (by omega) (by omega)]
  exact Int.natCast_nonneg _

set_option maxHeartbeats 4000000 in
theorem pick_high (r : Nat) (P n p : Int) (b off len cap : Nat) (w : World) (hP : P ≤ 1000000) (n0 : 1 ≤ n) (n1 : n ≤ 1000000) (hl0 : 0 < len) (hl : len ≤ 2000) (hcap : len ≤ cap) (hcm : cap ≤ maxLen) (hbr : b < r) (hbw : b < w.heap.size)
    (hby : ∀ i, i < len → ∃ z : Int, 0 ≤ z ∧ z ≤ 255 ∧ w.cell? ⟨b, off + i, none⟩ = some (.int .u8 z))
    (h2 : 0 ≤ p) (h3 : p ≤ P) (hge : len ≤ p) (h4 : r < w.heap.size) (h5 : w.cell? ⟨r, 0, none⟩ = some (.slice (some ⟨b, off, none⟩) len cap)) (h6 : w.cell? ⟨r, 1, none⟩ = some (.int .i64 p)) (h7 : w.frozen? ⟨r, 1, none⟩ = false) :
    Calls Tryd.prog 43 #[.pointer (some ⟨r, 0, none⟩), .int .i64 n] w (Picked n r P w) := by
  obtain ⟨k, rfl⟩ : ∃ k : Nat, p = (k : Int) := ⟨p.toNat, by omega⟩
  have hm := fun j => Rd.moved (P := P) j hl h2 h3 h4 h5 h6 h7 (Or.inr ⟨hl0, b, off, cap, hcap, hcm, rfl, hbr, hbw, hby⟩)
  have hne : b ≠ r := by omega
  have hk6 : (k : Int) ≤ 1000000 := by omega
  unfold maxLen at hcm
  obtain ⟨m1, l1, t1⟩ := tmod_nat (a := (k : Int)) (len := len) (by omega) hl0
  obtain ⟨m2, l2, t2⟩ := tmod_nat (a := (k : Int) * 7 + 3) (len := len) (by omega) hl0
  obtain ⟨q, q0, q1, t3⟩ := tdiv_small (a := (k : Int)) (len := len) (by omega) hl0
  obtain ⟨y, y0, y1, hy⟩ := hby m1 l1
  obtain ⟨z, z0, z1, hz⟩ := hby m2 l2
  clear hby
  have hlb : ((len : Int) == 0) = false := by simp; omega
  have l1' : (m1 : Int) < (len : Int) := by omega
  have l2' : (m2 : Int) < (len : Int) := by omega
  have m10 : (0 : Int) ≤ (m1 : Int) := by omega
  have m20 : (0 : Int) ≤ (m2 : Int) := by omega
  have s1 : IntKind.i64.wrap (y * 131) = y * 131 := IntWalk.i64_in _ (by omega)
  have s2 : IntKind.i64.wrap ((k : Int) * 7) = (k : Int) * 7 := IntWalk.i64_in _ (by omega)
  have s3 : IntKind.i64.wrap ((k : Int) * 7 + 3) = (k : Int) * 7 + 3 := IntWalk.i64_in _ (by omega)
  have s4 : IntKind.i64.wrap (z * 1117) = z * 1117 := IntWalk.i64_in _ (by omega)
  have s5 : IntKind.i64.wrap (y * 131 + z * 1117) = y * 131 + z * 1117 := IntWalk.i64_in _ (by omega)
  have s6 : IntKind.i64.wrap ((k : Int) * 29) = (k : Int) * 29 := IntWalk.i64_in _ (by omega)
  have s7 : IntKind.i64.wrap (y * 131 + z * 1117 + (k : Int) * 29) = y * 131 + z * 1117 + (k : Int) * 29 := IntWalk.i64_in _ (by omega)
  have s8 : IntKind.i64.wrap (q * 53) = q * 53 := IntWalk.i64_in _ (by omega)
  have s9 : IntKind.i64.wrap (y * 131 + z * 1117 + (k : Int) * 29 + q * 53) = y * 131 + z * 1117 + (k : Int) * 29 + q * 53 := IntWalk.i64_in _ (by omega)
  have s0 : IntKind.i64.wrap q = q := IntWalk.i64_in _ (by omega)
  have HX : 0 ≤ y * 131 + z * 1117 + (k : Int) * 29 + q * 53 := by omega
  have HY : y * 131 + z * 1117 + (k : Int) * 29 + q * 53 ≤ 1000000000 := by omega
  go_enter Tryd.func43, Tryd.ntmps43
  go_wp2
  go_quiet (fail)
  clear s0 s1 s2 s3 s4 s5 s6 s7 s8 s9 t1 t2 t3 hy hz l1' l2' m10 m20
  revert HX HY
  generalize y * 131 + z * 1117 + (k : Int) * 29 + q * 53 = X
  intro HX HY
  have d0 : 0 ≤ X / 64 := by omega
  have d1 : X / 64 ≤ 1000000000 := by omega
  have hx := xor_i64 HX HY d0 d1
  go_wp2
  go_ret
  have e0 := Int.emod_nonneg (bits .xor .i64 X (X / 64)) (b := n) (by omega)
  have e1 := Int.emod_lt_of_pos (bits .xor .i64 X (X / 64)) (b := n) (by omega)
  exact ⟨_, e0, e1, rfl, (hm _).1, (hm _).2⟩

theorem pick_any (r : Nat) (P n : Int) (w : World) (h : Rd w r P) (hP : P ≤ 1000000) (n0 : 1 ≤ n) (n1 : n ≤ 1000000) :
    Calls Tryd.prog 43 #[.pointer (some ⟨r, 0, none⟩), .int .i64 n] w (Picked n r P w) := by
  obtain ⟨v, m, p, h1, h2, h3, h4, h5, h6, h7, h8⟩ := h
  rcases h8 with ⟨rfl, a, c, rfl⟩ | ⟨g0, b, off, cap, g1, g2, rfl, g3, g4, g5⟩
  · exact pick_nil r P n p a c w hP n0 n1 h2 h3 h4 h5 h6 h7
  · by_cases hlt : p < m
    · exact pick_low r P n p b off m cap w hP n0 n1 g0 h1 g1 g2 g3 g4 g5 h2 h3 hlt h4 h5 h6 h7
    · exact pick_high r P n p b off m cap w hP n0 n1 g0 h1 g1 g2 g3 g4 g5 h2 h3 (by omega) h4 h5 h6 h7

/-- What odd leaves. -/
def Odd (r : Nat) (P : Int) (w : World) (e : Ending) (w' : World) : Prop := ∃ x : Bool, e = .returned (.bool x) ∧ Rd w' r (P + 1) ∧ ButR r w w'

set_option maxHeartbeats 1000000 in
theorem odd_any (r : Nat) (P n : Int) (w : World) (h : Rd w r P) (hP : P ≤ 1000000) (n0 : 0 ≤ n) (n1 : n ≤ 1000000) :
    Calls Tryd.prog 49 #[.pointer (some ⟨r, 0, none⟩), .int .i64 n] w (Odd r P w) := by
  by_cases hn : n = 0
  · subst hn
    go_enter Tryd.func49, Tryd.ntmps49
    go_wp2
    go_ret
    exact ⟨false, rfl, h.mono (by omega), ButR.refl _ _⟩
  · have hn1 : 1 ≤ n := by omega
    go_enter Tryd.func49, Tryd.ntmps49
    go_wp2_with (go_at_call 43; refine (pick_any _ _ _ _ h hP hn1 n1).mono ?_; rintro e w1 ⟨x, x0, x1, rfl, hr, hbut⟩)
    go_ret
    exact ⟨_, rfl, hr, hbut⟩
end Go.Proofs.YtcmhfjpofkgjbaaDoor
