/- ReadPitch in the program. -/
import Derived.Test.YtefbphmlhghojaaWalksText2
import Derived.Test.YtefbphmlhghojaaPureRead
import Derived.Test.YtefbphmlhghojaaPureRead2
namespace Go.Proofs.Ytefbphmlhghojaa
set_option linter.unusedSimpArgs false
set_option linter.unusedVariables false
open Go.RowKit

def okA (m : ByteArray) : Bool := decide (alZ m ≤ 2)
def alV (m : ByteArray) : Int := if alZ m ≤ 2 then alZ m else 0
def NoAlt (m : ByteArray) (k : Int) : Prop := ∀ a : Int, -2 ≤ a → a < k → m ≠ altB a
theorem NoAlt.succ {m : ByteArray} {k : Int} (h : NoAlt m k) (hk : ¬ altB k = m) : NoAlt m (k + 1) := fun a h0 h1 e => by
  rcases (show a < k ∨ a = k by omega) with h2 | rfl
  · exact h a h0 h2 e
  · exact hk e.symm

set_option maxHeartbeats 1000000 in
theorem readAlter_any (m : ByteArray) (w : World) :
    Calls Try.prog 34 #[.string m] w fun e w' => e = .returned (.tuple #[.int .i64 (alV m), .bool (okA m)]) ∧ Below w.heap.size w w' := by
  go_enter Try.func34, Try.ntmps34
  go_wp2
  go_loopw [4] (fun t wr => ∃ k : Int, -2 ≤ k ∧ k ≤ 3 ∧ NoAlt m k ∧ Below w.heap.size w wr ∧ t = .int .i64 k) (fun t _ => (3 - intOf t).toNat)
  case atStart => exact ⟨-2, by omega, by omega, fun a h0 h1 => by omega, Below.refl _ _, rfl⟩
  case round =>
    obtain ⟨k, hk0, hk1, hN, hB, rfl⟩ := hrel
    by_cases h3 : k = 3
    · subst h3
      have HV := hid (show alV m = 0 ∧ okA m = false by
        have := alZ_no hN
        simp [alV, okA, this])
      go_wp2
      go_ret2
      exact ⟨by rw [HV.out.1, HV.out.2]; rfl, hB⟩
    · have hlt : k ≤ 2 := by omega
      by_cases he : altB k = m
      · have HV := hid (show alV m = k ∧ okA m = true by
          have := alZ_at hk0 hlt he.symm
          simp [alV, okA, this, hlt])
        have hb := str_eq he
        clear he hN
        go_wp2_with (go_at_call 40; refine (alt_any _ _ (by omega) (by omega)).mono ?_; rintro e w1 ⟨rfl, hb1⟩)
        go_ret2
        exact ⟨by rw [HV.out.1, HV.out.2]; rfl, btr hB hb1⟩
      · have hb := str_ne he
        have hN' := hN.succ he
        clear he hN
        go_wp2_with (go_at_call 40; refine (alt_any _ _ (by omega) (by omega)).mono ?_; rintro e w1 ⟨rfl, hb1⟩)
        go_roundw
        case rel => exact ⟨k + 1, by omega, by omega, hN', btr hB hb1, rfl⟩
        case measure => simp [intOf]; omega

theorem index_byte (s : ByteArray) (i : Int) (h0 : 0 ≤ i) (h1 : i < s.size) (W : World) : (Instr.index 9 (.string s) (.int .i64 i)).run Try.prog W = .ok (.int .u8 (byZ s i.toNat)) W := by
  rw [run_index_string W 9 s .i64 i Try.underlying9, dif_pos ⟨h0, h1⟩]
  have h2 : i.toNat < s.data.toList.length := by
    have : s.data.toList.length = s.size := Array.length_toList
    omega
  have e : byZ s i.toNat = ((s[i.toNat]'(by omega)).toNat : Int) := by
    unfold byZ
    rw [List.getD_eq_getElem?_getD, List.getElem?_eq_getElem h2]
    rfl
  rw [e]

theorem slice_mid (s : ByteArray) (h : 2 ≤ s.size) (W : World) : (Instr.slice 9 (.string s) (some (.int .i64 1)) (some (.int .i64 ((s.size : Int) - 1))) none).run Try.prog W = .ok (.string (midB s)) W := by
  rw [run_slice_string_if W 9 s .i64 .i64 1 ((s.size : Int) - 1) Try.underlying9, if_pos (by omega), if_pos (by omega), midB, show ((s.size : Int) - 1).toNat = s.size - 1 by omega]
  rfl

theorem idxB_any (c : Int) (w : World) : Calls Try.prog 35 #[.string ⟨#[67, 68, 69, 70, 71, 65, 66]⟩, .int .u8 c] w fun e w' => e = .returned (.int .i64 (stI c)) ∧ w = w' :=
  (Try.strings_IndexByte _ c w).mono fun _ _ ⟨he, hw⟩ => ⟨he, hw.symm⟩

set_option maxHeartbeats 2000000 in
theorem readI_short (s : ByteArray) (w : World) (h : s.size < 2) :
    Calls Try.prog 25 #[.string s] w fun e w' => e = .returned (.tuple #[.agg #[.int .i64 0, .int .i64 0, .int .i64 0], .bool false]) ∧ Below w.heap.size w w' := by
  go_enter Try.func25, Try.ntmps25
  go_wp2
  exact bodyPost_ret (v := .tuple #[.agg #[.int .i64 0, .int .i64 0, .int .i64 0], .bool false]) (by simp [results, Try.results25, go_sem]) rfl ⟨rfl, below1 _⟩

theorem below_w3 {w W : World} (h : Below w.heap.size w W) (x y z : Value) :
    Below w.heap.size w (((W.setCell ⟨w.heap.size, 0, none⟩ x).setCell ⟨w.heap.size, 1, none⟩ y).setCell ⟨w.heap.size, 2, none⟩ z) :=
  ((h.setCell (Nat.le_refl _) _).setCell (Nat.le_refl _) _).setCell (Nat.le_refl _) _

/-- What ReadPitch leaves at a text of two bytes or more. -/
def ReadOut (s : ByteArray) (w : World) (e : Ending) (w' : World) : Prop :=
  e = .returned (if rdOk s = true then .tuple #[.agg #[.int .i64 (stI (byZ s 0)), .int .i64 (alZ (midB s)), .int .i64 (byZ s (s.size - 1) - 48)], .bool true] else .tuple #[.agg #[.int .i64 0, .int .i64 0, .int .i64 0], .bool false]) ∧ Below w.heap.size w w'

set_option maxHeartbeats 4000000 in
theorem readI_long (s : ByteArray) (w : World) (h : 2 ≤ s.size) (hs : s.size ≤ maxLen) :
    Calls Try.prog 25 #[.string s] w (ReadOut s w) := by
  unfold maxLen at hs
  have hb0 := byZ_bd s 0
  have hb1 := byZ_bd s (s.size - 1)
  have hst := stI_bd (byZ s 0)
  have hn : ((s.size : Int) - 1).toNat = s.size - 1 := by omega
  have i0 : ∀ W, (Instr.index 9 (.string s) (.int .i64 0)).run Try.prog W = .ok (.int .u8 (byZ s 0)) W := index_byte s 0 (by omega) (by omega)
  have i1 : ∀ W, (Instr.index 9 (.string s) (.int .i64 ((s.size : Int) - 1))).run Try.prog W = .ok (.int .u8 (byZ s (s.size - 1))) W := by
    have := index_byte s ((s.size : Int) - 1) (by omega) (by omega)
    rw [hn] at this
    exact this
  have sm := slice_mid s h
  clear hn
  go_enter Try.func25, Try.ntmps25
  go_wp2_with (go_at_call 34; refine (readAlter_any _ _).mono ?_; rintro e w1 ⟨rfl, hB1⟩)
  have hB := btr (below1 _) hB1
  have w1' : IntKind.i64.wrap (byZ s (s.size - 1) - 48) = byZ s (s.size - 1) - 48 := IntWalk.i64_in _ (by omega)
  have w2' : IntKind.i64.wrap (byZ s (s.size - 1)) = byZ s (s.size - 1) := IntWalk.i64_in _ (by omega)
  go_region_held3 (fun W => Below w.heap.size w W) (first | assumption | exact btr hB (below_drew1 _) | exact (hB.alloc hB.size _).drew | exact btr (by assumption) (below1 _))
    (first | (go_at_call 35; refine (idxB_any _ _).mono ?_; rintro e w1 ⟨rfl, rfl⟩))
  all_goals
    clear i0 i1 sm w1' w2' hst hb0 hb1
    obtain ⟨hc1, hf1⟩ := bcell hB1
    have hz1 := size_below hB1
    have n1 : w.heap.size < (w.alloc (.cells #[.int .i64 0, .int .i64 0, .int .i64 0] 23)).heap.size := by simp
    have hBW : Below w.heap.size w (w1.alloc (.cells #[.int .i64 (stI (byZ s 0)), .int .i64 (alV (midB s)), .int .i64 (byZ s (s.size - 1) - 48)] 23)).drew := (hB.alloc hB.size _).drew
    have g0 : (w1.alloc (.cells #[.int .i64 (stI (byZ s 0)), .int .i64 (alV (midB s)), .int .i64 (byZ s (s.size - 1) - 48)] 23)).drew.cell? ⟨w1.heap.size, 0, none⟩ = some (.int .i64 (stI (byZ s 0))) := by simp
    have g1 : (w1.alloc (.cells #[.int .i64 (stI (byZ s 0)), .int .i64 (alV (midB s)), .int .i64 (byZ s (s.size - 1) - 48)] 23)).drew.cell? ⟨w1.heap.size, 1, none⟩ = some (.int .i64 (alV (midB s))) := by simp
    have g2 : (w1.alloc (.cells #[.int .i64 (stI (byZ s 0)), .int .i64 (alV (midB s)), .int .i64 (byZ s (s.size - 1) - 48)] 23)).drew.cell? ⟨w1.heap.size, 2, none⟩ = some (.int .i64 (byZ s (s.size - 1) - 48)) := by simp
    have r0 : (w1.alloc (.cells #[.int .i64 (stI (byZ s 0)), .int .i64 (alV (midB s)), .int .i64 (byZ s (s.size - 1) - 48)] 23)).drew.cell? ⟨w.heap.size, 0, none⟩ = some (.int .i64 0) := by rw [World.cell?_drew, World.cell?_alloc_lt _ _ _ hz1, hc1 _ _ n1]; simp
    have r1 : (w1.alloc (.cells #[.int .i64 (stI (byZ s 0)), .int .i64 (alV (midB s)), .int .i64 (byZ s (s.size - 1) - 48)] 23)).drew.cell? ⟨w.heap.size, 1, none⟩ = some (.int .i64 0) := by rw [World.cell?_drew, World.cell?_alloc_lt _ _ _ hz1, hc1 _ _ n1]; simp
    have r2 : (w1.alloc (.cells #[.int .i64 (stI (byZ s 0)), .int .i64 (alV (midB s)), .int .i64 (byZ s (s.size - 1) - 48)] 23)).drew.cell? ⟨w.heap.size, 2, none⟩ = some (.int .i64 0) := by rw [World.cell?_drew, World.cell?_alloc_lt _ _ _ hz1, hc1 _ _ n1]; simp
    have s0 : (w1.alloc (.cells #[.int .i64 (stI (byZ s 0)), .int .i64 (alV (midB s)), .int .i64 (byZ s (s.size - 1) - 48)] 23)).drew.frozen? ⟨w.heap.size, 0, none⟩ = false := by
      rw [((Below.refl w1.heap.size w1).alloc (Nat.le_refl _) (.cells #[.int .i64 (stI (byZ s 0)), .int .i64 (alV (midB s)), .int .i64 (byZ s (s.size - 1) - 48)] 23)).drew.frozen (p := ⟨w.heap.size, 0, none⟩) hz1, hf1 _ _ n1]; exact World.frozen?_alloc_at _ _ _ _ rfl
    have s1 : (w1.alloc (.cells #[.int .i64 (stI (byZ s 0)), .int .i64 (alV (midB s)), .int .i64 (byZ s (s.size - 1) - 48)] 23)).drew.frozen? ⟨w.heap.size, 1, none⟩ = false := by
      rw [((Below.refl w1.heap.size w1).alloc (Nat.le_refl _) (.cells #[.int .i64 (stI (byZ s 0)), .int .i64 (alV (midB s)), .int .i64 (byZ s (s.size - 1) - 48)] 23)).drew.frozen (p := ⟨w.heap.size, 1, none⟩) hz1, hf1 _ _ n1]; exact World.frozen?_alloc_at _ _ _ _ rfl
    have s2 : (w1.alloc (.cells #[.int .i64 (stI (byZ s 0)), .int .i64 (alV (midB s)), .int .i64 (byZ s (s.size - 1) - 48)] 23)).drew.frozen? ⟨w.heap.size, 2, none⟩ = false := by
      rw [((Below.refl w1.heap.size w1).alloc (Nat.le_refl _) (.cells #[.int .i64 (stI (byZ s 0)), .int .i64 (alV (midB s)), .int .i64 (byZ s (s.size - 1) - 48)] 23)).drew.frozen (p := ⟨w.heap.size, 2, none⟩) hz1, hf1 _ _ n1]; exact World.frozen?_alloc_at _ _ _ _ rfl
    have hzq : w1.heap.size < (w1.alloc (.cells #[.int .i64 (stI (byZ s 0)), .int .i64 (alV (midB s)), .int .i64 (byZ s (s.size - 1) - 48)] 23)).drew.heap.size := by show w1.heap.size < (w1.alloc (.cells #[.int .i64 (stI (byZ s 0)), .int .i64 (alV (midB s)), .int .i64 (byZ s (s.size - 1) - 48)] 23)).heap.size; simp
    have hzr : w.heap.size < (w1.alloc (.cells #[.int .i64 (stI (byZ s 0)), .int .i64 (alV (midB s)), .int .i64 (byZ s (s.size - 1) - 48)] 23)).drew.heap.size := Nat.lt_trans hz1 hzq
    clear hc1 hf1 hB1 n1 hB
    revert hBW g0 g1 g2 r0 r1 r2 s0 s1 s2 hzq hzr
    generalize (w1.alloc (.cells #[.int .i64 (stI (byZ s 0)), .int .i64 (alV (midB s)), .int .i64 (byZ s (s.size - 1) - 48)] 23)).drew = W1
    generalize w1.heap.size = q at *
    intro hBW g0 g1 g2 r0 r1 r2 s0 s1 s2 hzq hzr
    by_cases hok : okA (midB s) = true
    · have ha : alV (midB s) = alZ (midB s) := by simp [okA] at hok; simp [alV, hok]
      by_cases hv : pvB (stI (byZ s 0)) (alV (midB s)) (byZ s (s.size - 1) - 48) = true
      · have hr : rdOk s = true := by
          unfold rdOk
          rw [← ha, hv]
          simp [h]
        have HR := hid (⟨hr, ha⟩ : rdOk s = true ∧ alV (midB s) = alZ (midB s))
        clear hr ha
        go_wp2_with (go_at_call 36; refine (pvI_any _ _ _ _).mono ?_; rintro e w1 ⟨rfl, hb⟩; (first | have hA2 := btr hA hb | have hA2 := hb); (try clear hA hc hf hz); clear hb; have hA := hA2; clear hA2; obtain ⟨hc, hf⟩ := bcell hA; have hz := hA.size; try simp only [World.size_alloc1] at hz)
        refine bodyPost_ret (v := .tuple #[.agg #[.int .i64 (stI (byZ s 0)), .int .i64 (alV (midB s)), .int .i64 (byZ s (s.size - 1) - 48)], .bool true]) (by simp [results, Try.results25, go_sem, hc, r0, r1, r2, hzr]) rfl ⟨by rw [if_pos HR.out.1, HR.out.2], ?_⟩
        exact below_w3 (btr hBW hA) _ _ _
      · have hr : ¬ rdOk s = true := by
          unfold rdOk
          rw [← ha]
          simp [hv]
        rw [Bool.not_eq_true] at hv
        have HR := hid hr
        clear hr ha
        go_wp2_with (go_at_call 36; refine (pvI_any _ _ _ _).mono ?_; rintro e w1 ⟨rfl, hb⟩; (first | have hA2 := btr hA hb | have hA2 := hb); (try clear hA hc hf hz); clear hb; have hA := hA2; clear hA2; obtain ⟨hc, hf⟩ := bcell hA; have hz := hA.size; try simp only [World.size_alloc1] at hz)
        refine bodyPost_ret (v := .tuple #[.agg #[.int .i64 0, .int .i64 0, .int .i64 0], .bool false]) (by simp [results, Try.results25, go_sem, hc, r0, r1, r2, hzr]) rfl ⟨by rw [if_neg HR.out], ?_⟩
        exact below_w3 (btr hBW hA) _ _ _
    · have hr : ¬ rdOk s = true := by
        unfold rdOk
        simp [okA] at hok
        intro e
        simp only [Bool.and_eq_true] at e
        have := pvB_iff.1 e.2
        omega
      rw [Bool.not_eq_true] at hok
      have HR := hid hr
      clear hr
      go_wp2
      refine bodyPost_ret (v := .tuple #[.agg #[.int .i64 0, .int .i64 0, .int .i64 0], .bool false]) (by simp [results, Try.results25, go_sem, r0, r1, r2]) rfl ⟨by rw [if_neg HR.out], ?_⟩
      exact below_w3 hBW _ _ _

/- ReadPitch in the model. -/
open Go.RowKit

/-- The two pitches of ReadPitch: the result's, still zero, and the one that is found, with what it holds. -/
def SP (w W : World) (x y z : Int) : Prop :=
  (W.cell? ⟨w.heap.size + 1, 0, none⟩ = some (.int .i64 x) ∧ W.cell? ⟨w.heap.size + 1, 1, none⟩ = some (.int .i64 y) ∧ W.cell? ⟨w.heap.size + 1, 2, none⟩ = some (.int .i64 z)) ∧
  (W.frozen? ⟨w.heap.size + 1, 0, none⟩ = false ∧ W.frozen? ⟨w.heap.size + 1, 1, none⟩ = false ∧ W.frozen? ⟨w.heap.size + 1, 2, none⟩ = false) ∧
  (W.cell? ⟨w.heap.size, 0, none⟩ = some (.int .i64 0) ∧ W.cell? ⟨w.heap.size, 1, none⟩ = some (.int .i64 0) ∧ W.cell? ⟨w.heap.size, 2, none⟩ = some (.int .i64 0)) ∧
  (W.frozen? ⟨w.heap.size, 0, none⟩ = false ∧ W.frozen? ⟨w.heap.size, 1, none⟩ = false ∧ W.frozen? ⟨w.heap.size, 2, none⟩ = false) ∧
  w.heap.size + 1 < W.heap.size ∧ Below w.heap.size w W

theorem SP.drewN {w W : World} {x y z : Int} (h : SP w W x y z) (n : Nat) : SP w (W.drewN n) x y z := ⟨h.1, h.2.1, h.2.2.1, h.2.2.2.1, h.2.2.2.2.1, below_drewN h.2.2.2.2.2 n⟩

theorem SP.set {w W : World} {x y z : Int} (h : SP w W x y z) (i : Nat) (v x' y' z' : Int) (hi : (i = 0 ∧ x' = v ∧ y' = y ∧ z' = z) ∨ (i = 1 ∧ x' = x ∧ y' = v ∧ z' = z) ∨ (i = 2 ∧ x' = x ∧ y' = y ∧ z' = v)) :
    SP w (W.setCell ⟨w.heap.size + 1, i, none⟩ (.int .i64 v)) x' y' z' := by
  obtain ⟨⟨c0, c1, c2⟩, ⟨f0, f1, f2⟩, ⟨r0, r1, r2⟩, ⟨s0, s1, s2⟩, hz, hb⟩ := h
  have hne : ∀ j, (⟨w.heap.size + 1, i, none⟩ : Addr) ≠ ⟨w.heap.size, j, none⟩ := fun j e => by have e2 := congrArg Addr.block e; simp at e2
  refine ⟨?_, ⟨by simpa using f0, by simpa using f1, by simpa using f2⟩, ⟨?_, ?_, ?_⟩, ⟨by simpa using s0, by simpa using s1, by simpa using s2⟩, by simpa using hz, hb.setCell (by show w.heap.size ≤ w.heap.size + 1; omega) _⟩
  · rcases hi with ⟨rfl, rfl, rfl, rfl⟩ | ⟨rfl, rfl, rfl, rfl⟩ | ⟨rfl, rfl, rfl, rfl⟩
    · exact ⟨World.cell?_setCell_same _ _ _ c0, by rw [World.cell?_setCell_other W ⟨w.heap.size + 1, 0, none⟩ _ _ (by simp), c1], by rw [World.cell?_setCell_other W ⟨w.heap.size + 1, 0, none⟩ _ _ (by simp), c2]⟩
    · exact ⟨by rw [World.cell?_setCell_other W ⟨w.heap.size + 1, 1, none⟩ _ _ (by simp), c0], World.cell?_setCell_same _ _ _ c1, by rw [World.cell?_setCell_other W ⟨w.heap.size + 1, 1, none⟩ _ _ (by simp), c2]⟩
    · exact ⟨by rw [World.cell?_setCell_other W ⟨w.heap.size + 1, 2, none⟩ _ _ (by simp), c0], by rw [World.cell?_setCell_other W ⟨w.heap.size + 1, 2, none⟩ _ _ (by simp), c1], World.cell?_setCell_same _ _ _ c2⟩
  · rw [World.cell?_setCell_other W _ _ _ (hne 0), r0]
  · rw [World.cell?_setCell_other W _ _ _ (hne 1), r1]
  · rw [World.cell?_setCell_other W _ _ _ (hne 2), r2]

theorem SP.below {w W W' : World} {x y z : Int} (h : SP w W x y z) (hb : Below W.heap.size W W') : SP w W' x y z := by
  obtain ⟨⟨c0, c1, c2⟩, ⟨f0, f1, f2⟩, ⟨r0, r1, r2⟩, ⟨s0, s1, s2⟩, hz, hB⟩ := h
  obtain ⟨hc, hf⟩ := bcell hb
  have hz2 : w.heap.size < W.heap.size := by omega
  exact ⟨⟨by rw [hc _ _ hz, c0], by rw [hc _ _ hz, c1], by rw [hc _ _ hz, c2]⟩, ⟨by rw [hf _ _ hz, f0], by rw [hf _ _ hz, f1], by rw [hf _ _ hz, f2]⟩, ⟨by rw [hc _ _ hz2, r0], by rw [hc _ _ hz2, r1], by rw [hc _ _ hz2, r2]⟩,
    ⟨by rw [hf _ _ hz2, s0], by rw [hf _ _ hz2, s1], by rw [hf _ _ hz2, s2]⟩, Nat.lt_of_lt_of_le hz hb.size, btr hB hb⟩

theorem SP.start (w : World) (t t' : TypeId) : SP w ((w.alloc (.cells #[.int .i64 0, .int .i64 0, .int .i64 0] t)).alloc (.cells #[.int .i64 (-1), .int .i64 0, .int .i64 0] t')) (-1) 0 0 := by
  have e : (w.alloc (.cells #[.int .i64 0, .int .i64 0, .int .i64 0] t)).heap.size = w.heap.size + 1 := by simp
  refine ⟨⟨?_, ?_, ?_⟩, ⟨?_, ?_, ?_⟩, ⟨?_, ?_, ?_⟩, ⟨?_, ?_, ?_⟩, by simp, below2 _ _⟩
  · rw [← e]; simp
  · rw [← e]; simp
  · rw [← e]; simp
  · exact World.frozen?_alloc_at _ _ _ _ (by simp)
  · exact World.frozen?_alloc_at _ _ _ _ (by simp)
  · exact World.frozen?_alloc_at _ _ _ _ (by simp)
  · rw [World.cell?_alloc_lt _ _ _ (by simp)]; simp
  · rw [World.cell?_alloc_lt _ _ _ (by simp)]; simp
  · rw [World.cell?_alloc_lt _ _ _ (by simp)]; simp
  · rw [((Below.refl (w.heap.size + 1) _).alloc (by simp) _).frozen (p := ⟨w.heap.size, 0, none⟩) (by simp)]; exact World.frozen?_alloc_at _ _ _ _ rfl
  · rw [((Below.refl (w.heap.size + 1) _).alloc (by simp) _).frozen (p := ⟨w.heap.size, 1, none⟩) (by simp)]; exact World.frozen?_alloc_at _ _ _ _ rfl
  · rw [((Below.refl (w.heap.size + 1) _).alloc (by simp) _).frozen (p := ⟨w.heap.size, 2, none⟩) (by simp)]; exact World.frozen?_alloc_at _ _ _ _ rfl

theorem letter_at (k : Int) (h0 : 0 ≤ k) (h6 : k ≤ 6) (W : World) : (Instr.index 9 (.string ⟨#[67, 68, 69, 70, 71, 65, 66]⟩) (.int .i64 k)).run Try.prog W = .ok (.int .u8 (ltZ k)) W := by
  rw [index_byte _ k h0 (by show k < 7; omega) W]
  rcases step7 h0 h6 with rfl | rfl | rfl | rfl | rfl | rfl | rfl <;> rfl

set_option maxHeartbeats 4000000 in
theorem readS_long (s : ByteArray) (w : World) (h : 0 < s.size) (hs : s.size ≤ maxLen) :
    Calls Try.prog 13 #[.string s] w (ReadOut s w) := by
  unfold maxLen at hs
  have hb0 := byZ_bd s 0
  have i0 : ∀ W, (Instr.index 9 (.string s) (.int .i64 0)).run Try.prog W = .ok (.int .u8 (byZ s 0)) W := index_byte s 0 (by omega) (by omega)
  have e1 : s.toList.isEmpty = false := by
    rw [ByteArray.toList_eq, List.isEmpty_eq_false_iff]
    intro e
    have hz : s.data.toList.length = s.size := Array.length_toList
    rw [e] at hz
    exact absurd hz (by show ¬ (0 = s.size); omega)
  have e2 : (s.toList == []) = false := by rw [← e1]; cases s.toList <;> rfl
  have e3 : ¬ s.toList = [] := by intro e; rw [e] at e1; cases e1
  go_enter Try.func13, Try.ntmps13
  go_wp2
  go_loopw [5] (fun t wr => ∃ k : Nat, k ≤ 7 ∧ t = .int .i64 k ∧ SP w wr (st1 s k) 0 0) (fun t _ => (7 - intOf t).toNat)
  case atStart => exact ⟨0, by omega, rfl, SP.start w _ _⟩
  case round =>
    obtain ⟨k, hk, rfl, hP⟩ := hrel
    by_cases hlt : k < 7
    · have hk7 : (k : Int) < 7 := by omega
      have hi := letter_at (k : Int) (by omega) (by omega)
      obtain ⟨⟨c0, c1, c2⟩, ⟨f0, f1, f2⟩, _, _, _, _⟩ := id hP
      by_cases he : ltZ k = byZ s 0
      · have hb : (ltZ k == byZ s 0) = true := by simp [he]
        have HE := hid he
        clear he
        go_wp2
        go_quiet (fail)
        go_wp2
        go_roundw
        case rel => exact ⟨k + 1, by omega, by go_num, by rw [show st1 s (k + 1) = k by rw [st1, if_pos HE.out]]; exact (hP.drewN _).set 0 k k 0 0 (Or.inl ⟨rfl, rfl, rfl, rfl⟩)⟩
        case measure => simp [intOf]; omega
      · have hb : (ltZ k == byZ s 0) = false := by simp [he]
        have HE := hid he
        clear he
        go_wp2
        go_quiet (fail)
        go_wp2
        go_roundw
        case rel => exact ⟨k + 1, by omega, by go_num, by rw [show st1 s (k + 1) = st1 s k by rw [st1, if_neg HE.out]]; exact hP.drewN _⟩
        case measure => simp [intOf]; omega
    · have hk7 : k = 7 := by omega
      subst hk7
      clear hlt hk
      have hmm : Hid (mm s = min s.size 5 - 1) := rfl
      go_wp2
      go_loopw [6] (fun t wr => ∃ j : Nat, j ≤ mm s ∧ t = .int .i64 ((j : Int) + 1) ∧ SP w wr (st1 s 7) (rfA s j) (rfO s j)) (fun t _ => (7 - intOf t).toNat)
      case atStart => exact ⟨0, by omega, rfl, hP⟩
      case round =>
        clear hP
        obtain ⟨j, hj, rfl, hP⟩ := hrel
        by_cases hlt : j < mm s
        · have hj1 : ((j : Int) + 1) < (s.size : Int) := by have := hmm.out; omega
          have hj2 : ((j : Int) + 1) < 5 := by have := hmm.out; omega
          have hi : ∀ W, (Instr.index 9 (.string s) (.int .i64 ((j : Int) + 1))).run Try.prog W = .ok (.int .u8 (byZ s (j + 1))) W := index_byte s ((j : Int) + 1) (by omega) hj1
          have hbb := byZ_bd s (j + 1)
          have hAb := fA_bd s j
          have hOb := fO_bd s j
          obtain ⟨⟨c0, c1, c2⟩, ⟨f0, f1, f2⟩, _, _, _, _⟩ := id hP
          by_cases h35 : byZ s (j + 1) = 35
          · have hb : (byZ s (j + 1) == 35) = true := by simp [h35]
            have HE := hid (show rfA s (j + 1) = rfA s j + 1 ∧ rfO s (j + 1) = rfO s j by rw [rfA, rfO, if_pos h35, if_pos h35]; exact ⟨rfl, rfl⟩)
            clear h35
            go_wp2
            go_roundw
            case rel => exact ⟨j + 1, by omega, by go_num, by rw [HE.out.1, HE.out.2]; exact hP.set 1 _ _ _ _ (Or.inr (Or.inl ⟨rfl, rfl, rfl, rfl⟩))⟩
            case measure => simp [intOf]; omega
          · have hb : (byZ s (j + 1) == 35) = false := by simp [h35]
            by_cases h98 : byZ s (j + 1) = 98
            · have hb2 : (byZ s (j + 1) == 98) = true := by simp [h98]
              have HE := hid (show rfA s (j + 1) = rfA s j - 1 ∧ rfO s (j + 1) = rfO s j by rw [rfA, rfO, if_neg h35, if_neg h35, if_pos h98, if_pos h98]; exact ⟨rfl, rfl⟩)
              clear h35 h98
              go_wp2
              go_roundw
              case rel => exact ⟨j + 1, by omega, by go_num, by rw [HE.out.1, HE.out.2]; exact hP.set 1 _ _ _ _ (Or.inr (Or.inl ⟨rfl, rfl, rfl, rfl⟩))⟩
              case measure => simp [intOf]; omega
            · have hb2 : (byZ s (j + 1) == 98) = false := by simp [h98]
              have HE := hid (show rfA s (j + 1) = rfA s j ∧ rfO s (j + 1) = byZ s (j + 1) - 48 by rw [rfA, rfO, if_neg h35, if_neg h35, if_neg h98, if_neg h98]; exact ⟨rfl, rfl⟩)
              clear h35 h98
              go_wp2
              go_roundw
              case rel => exact ⟨j + 1, by omega, by go_num, by rw [HE.out.1, HE.out.2]; exact hP.set 2 _ _ _ _ (Or.inr (Or.inr ⟨rfl, rfl, rfl, rfl⟩))⟩
              case measure => simp [intOf]; omega
        · obtain rfl : j = mm s := by omega
          have hj1 : ¬ (((mm s : Nat) : Int) + 1 < (s.size : Int) ∧ ((mm s : Nat) : Int) + 1 < 5) := by have := hmm.out; omega
          have HF := hid (found h)
          clear hlt hj hb0 i0
          obtain ⟨⟨c0, c1, c2⟩, ⟨f0, f1, f2⟩, ⟨r0, r1, r2⟩, ⟨s0, s1, s2⟩, hz, hB⟩ := id hP
          by_cases ht : textB (st1 s 7) (rfA s (mm s)) (rfO s (mm s)) = s
          · have hbt := str_eq ht
            have HR := hid (HF.out.1 ht)
            clear ht
            by_cases hs5 : ((mm s : Nat) : Int) + 1 < (s.size : Int)
            all_goals
              go_wp2_with (go_at_call 21; refine (textS_any _ _ _ _).mono ?_; rintro e w1 ⟨rfl, hb⟩; have hP := hP.below hb; clear hb; obtain ⟨⟨c0, c1, c2⟩, ⟨f0, f1, f2⟩, ⟨r0, r1, r2⟩, ⟨s0, s1, s2⟩, hz, hB⟩ := id hP)
              refine bodyPost_ret (v := .tuple #[.agg #[.int .i64 (st1 s 7), .int .i64 (rfA s (mm s)), .int .i64 (rfO s (mm s))], .bool true]) (by simp [results, Try.results13, go_sem, r0, r1, r2]) rfl ⟨by rw [if_pos HR.out.1, HR.out.2.1, HR.out.2.2.1, HR.out.2.2.2], ?_⟩
              exact below_w3 hB _ _ _
          · have hbt := str_ne ht
            have HR := hid (HF.out.2 ht)
            clear ht
            by_cases hs5 : ((mm s : Nat) : Int) + 1 < (s.size : Int)
            all_goals
              go_wp2_with (go_at_call 21; refine (textS_any _ _ _ _).mono ?_; rintro e w1 ⟨rfl, hb⟩; have hP := hP.below hb; clear hb; obtain ⟨⟨c0, c1, c2⟩, ⟨f0, f1, f2⟩, ⟨r0, r1, r2⟩, ⟨s0, s1, s2⟩, hz, hB⟩ := id hP)
              refine bodyPost_ret (v := .tuple #[.agg #[.int .i64 0, .int .i64 0, .int .i64 0], .bool false]) (by simp [results, Try.results13, go_sem, r0, r1, r2]) rfl ⟨by rw [if_neg (by rw [HR.out]; decide)], ?_⟩
              exact below_w3 hB _ _ _

set_option maxHeartbeats 2000000 in
theorem readS_nil (w : World) :
    Calls Try.prog 13 #[.string ⟨#[]⟩] w (ReadOut ⟨#[]⟩ w) := by
  have hr : rdOk ⟨#[]⟩ = false := by decide
  have HR := hid hr
  clear hr
  go_enter Try.func13, Try.ntmps13
  go_wp2
  go_loop [5] (fun t => t = .int .i64 0) (fun _ => 0)
  case atStart => rfl
  case round =>
    subst hrel
    go_wp2
    go_loop [6] (fun t => t = .int .i64 1) (fun _ => 0)
    case atStart => rfl
    case round =>
      subst hrel
      go_wp2
      refine bodyPost_ret (v := .tuple #[.agg #[.int .i64 0, .int .i64 0, .int .i64 0], .bool false]) (by simp [results, Try.results13, go_sem]) rfl ⟨by rw [if_neg (by rw [HR.out]; decide)], ?_⟩
      exact below2 _ _

theorem readS_any (s : ByteArray) (w : World) (hs : s.size ≤ maxLen) : Calls Try.prog 13 #[.string s] w (ReadOut s w) := by
  by_cases h : s.size = 0
  · have e : s = ⟨#[]⟩ := by
      apply ByteArray.ext
      exact Array.eq_empty_of_size_eq_zero h
    subst e
    exact readS_nil w
  · exact readS_long s w (by omega) hs

theorem readI_any (s : ByteArray) (w : World) (hs : s.size ≤ maxLen) : Calls Try.prog 25 #[.string s] w (ReadOut s w) := by
  by_cases h : 2 ≤ s.size
  · exact readI_long s w h hs
  · refine (readI_short s w (by omega)).mono fun e w' ⟨he, hb⟩ => ⟨?_, hb⟩
    have : ¬ rdOk s = true := by simp [rdOk, h]
    rw [he, if_neg this]
end Go.Proofs.Ytefbphmlhghojaa
