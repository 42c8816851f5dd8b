/- ReadPitch in the program. -/
import Derived.Test.YtkdkmhidkaohoaaDoorWalksText2
import Derived.Test.YtkdkmhidkaohoaaDoorPureRead
namespace Go.Proofs.YtkdkmhidkaohoaaDoor
set_option linter.unusedSimpArgs false
set_option linter.unusedVariables false
open Go.RowKit

def okA (m : ByteArray) : Bool := decide (alZ m ≤ 2)
def alV (m : ByteArray) : Int := if alZ m ≤ 2 then alZ m else 0
def NoAlt (m : ByteArray) (k : Int) : Prop := ∀ a : Int, -2 ≤ a → a < k → m ≠ altB a
theorem NoAlt.succ {m : ByteArray} {k : Int} (h : NoAlt m k) (hk : ¬ altB k = m) : NoAlt m (k + 1) := fun a h0 h1 e => by
  rcases (show a < k ∨ a = k by omega) with h2 | rfl
  · exact h a h0 h2 e
  · exact hk e.symm

set_option maxHeartbeats 1000000 in
theorem readAlter_any (m : ByteArray) (w : World) :
    Calls Tryd.prog 29 #[.string m] w fun e w' => e = .returned (.tuple #[.int .i64 (alV m), .bool (okA m)]) ∧ Below w.heap.size w w' := by
  go_enter Tryd.func29, Tryd.ntmps29
  go_wp2
  go_loopw [4] (fun t wr => ∃ k : Int, -2 ≤ k ∧ k ≤ 3 ∧ NoAlt m k ∧ Below w.heap.size w wr ∧ t = .int .i64 k) (fun t _ => (3 - intOf t).toNat)
  case atStart => exact ⟨-2, by omega, by omega, fun a h0 h1 => by omega, Below.refl _ _, rfl⟩
  case round =>
    obtain ⟨k, hk0, hk1, hN, hB, rfl⟩ := hrel
    by_cases h3 : k = 3
    · subst h3
      have HV := hid (show alV m = 0 ∧ okA m = false by
        have := alZ_no hN
        simp [alV, okA, this])
      go_wp2
      go_ret2
      exact ⟨by rw [HV.out.1, HV.out.2]; rfl, hB⟩
    · have hlt : k ≤ 2 := by omega
      by_cases he : altB k = m
      · have HV := hid (show alV m = k ∧ okA m = true by
          have := alZ_at hk0 hlt he.symm
          simp [alV, okA, this, hlt])
        have hb := str_eq he
        clear he hN
        go_wp2_with (go_at_call 26; refine (alt_any _ _ (by omega) (by omega)).mono ?_; rintro e w1 ⟨rfl, hb1⟩)
        go_ret2
        exact ⟨by rw [HV.out.1, HV.out.2]; rfl, btr hB hb1⟩
      · have hb := str_ne he
        have hN' := hN.succ he
        clear he hN
        go_wp2_with (go_at_call 26; refine (alt_any _ _ (by omega) (by omega)).mono ?_; rintro e w1 ⟨rfl, hb1⟩)
        go_roundw
        case rel => exact ⟨k + 1, by omega, by omega, hN', btr hB hb1, rfl⟩
        case measure => simp [intOf]; omega

theorem index_byte (s : ByteArray) (i : Int) (h0 : 0 ≤ i) (h1 : i < s.size) (W : World) : (Instr.index 9 (.string s) (.int .i64 i)).run Tryd.prog W = .ok (.int .u8 (byZ s i.toNat)) W := by
  rw [run_index_string W 9 s .i64 i Tryd.underlying9, dif_pos ⟨h0, h1⟩]
  have h2 : i.toNat < s.data.toList.length := by
    have : s.data.toList.length = s.size := Array.length_toList
    omega
  have e : byZ s i.toNat = ((s[i.toNat]'(by omega)).toNat : Int) := by
    unfold byZ
    rw [List.getD_eq_getElem?_getD, List.getElem?_eq_getElem h2]
    rfl
  rw [e]

theorem slice_mid (s : ByteArray) (h : 2 ≤ s.size) (W : World) : (Instr.slice 9 (.string s) (some (.int .i64 1)) (some (.int .i64 ((s.size : Int) - 1))) none).run Tryd.prog W = .ok (.string (midB s)) W := by
  rw [run_slice_string_if W 9 s .i64 .i64 1 ((s.size : Int) - 1) Tryd.underlying9, if_pos (by omega), if_pos (by omega), midB, show ((s.size : Int) - 1).toNat = s.size - 1 by omega]
  rfl

theorem idxB_any (c : Int) (w : World) : Calls Tryd.prog 30 #[.string ⟨#[67, 68, 69, 70, 71, 65, 66]⟩, .int .u8 c] w fun e w' => e = .returned (.int .i64 (stI c)) ∧ w = w' :=
  (Tryd.strings_IndexByte _ c w).mono fun _ _ ⟨he, hw⟩ => ⟨he, hw.symm⟩

set_option maxHeartbeats 2000000 in
theorem readI_short (s : ByteArray) (w : World) (h : s.size < 2) :
    Calls Tryd.prog 17 #[.string s] w fun e w' => e = .returned (.tuple #[.agg #[.int .i64 0, .int .i64 0, .int .i64 0], .bool false]) ∧ Below w.heap.size w w' := by
  go_enter Tryd.func17, Tryd.ntmps17
  go_wp2
  exact bodyPost_ret (v := .tuple #[.agg #[.int .i64 0, .int .i64 0, .int .i64 0], .bool false]) (by simp [results, Tryd.results17, go_sem]) rfl ⟨rfl, below1 _⟩

theorem below_w3 {w W : World} (h : Below w.heap.size w W) (x y z : Value) :
    Below w.heap.size w (((W.setCell ⟨w.heap.size, 0, none⟩ x).setCell ⟨w.heap.size, 1, none⟩ y).setCell ⟨w.heap.size, 2, none⟩ z) :=
  ((h.setCell (Nat.le_refl _) _).setCell (Nat.le_refl _) _).setCell (Nat.le_refl _) _

/-- What ReadPitch leaves at a text of two bytes or more. -/
def ReadOut (s : ByteArray) (w : World) (e : Ending) (w' : World) : Prop :=
  e = .returned (if rdOk s = true then .tuple #[.agg #[.int .i64 (stI (byZ s 0)), .int .i64 (alZ (midB s)), .int .i64 (byZ s (s.size - 1) - 48)], .bool true] else .tuple #[.agg #[.int .i64 0, .int .i64 0, .int .i64 0], .bool false]) ∧ Below w.heap.size w w'

set_option maxHeartbeats 4000000 in
theorem readI_long (s : ByteArray) (w : World) (h : 2 ≤ s.size) (hs : s.size ≤ maxLen) :
    Calls Tryd.prog 17 #[.string s] w (ReadOut s w) := by
  unfold maxLen at hs
  have hb0 := byZ_bd s 0
  have hb1 := byZ_bd s (s.size - 1)
  have hst := stI_bd (byZ s 0)
  have hn : ((s.size : Int) - 1).toNat = s.size - 1 := by omega
  have i0 : ∀ W, (Instr.index 9 (.string s) (.int .i64 0)).run Tryd.prog W = .ok (.int .u8 (byZ s 0)) W := index_byte s 0 (by omega) (by omega)
  have i1 : ∀ W, (Instr.index 9 (.string s) (.int .i64 ((s.size : Int) - 1))).run Tryd.prog W = .ok (.int .u8 (byZ s (s.size - 1))) W := by
    have := index_byte s ((s.size : Int) - 1) (by omega) (by omega)
    rw [hn] at this
    exact this
  have sm := slice_mid s h
  clear hn
  go_enter Tryd.func17, Tryd.ntmps17
  go_wp2_with (go_at_call 29; refine (readAlter_any _ _).mono ?_; rintro e w1 ⟨rfl, hB1⟩)
  have hB := btr (below1 _) hB1
  have w1' : IntKind.i64.wrap (byZ s (s.size - 1) - 48) = byZ s (s.size - 1) - 48 := IntWalk.i64_in _ (by omega)
  have w2' : IntKind.i64.wrap (byZ s (s.size - 1)) = byZ s (s.size - 1) := IntWalk.i64_in _ (by omega)
  go_region_held3 (fun W => Below w.heap.size w W) (first | assumption | exact btr hB (below_drew1 _) | exact (hB.alloc hB.size _).drew | exact btr (by assumption) (below1 _))
    (first | (go_at_call 30; refine (idxB_any _ _).mono ?_; rintro e w1 ⟨rfl, rfl⟩))
  all_goals
    clear i0 i1 sm w1' w2' hst hb0 hb1
    obtain ⟨hc1, hf1⟩ := bcell hB1
    have hz1 := size_below hB1
    have n1 : w.heap.size < (w.alloc (.cells #[.int .i64 0, .int .i64 0, .int .i64 0] 24)).heap.size := by simp
    have hBW : Below w.heap.size w (w1.alloc (.cells #[.int .i64 (stI (byZ s 0)), .int .i64 (alV (midB s)), .int .i64 (byZ s (s.size - 1) - 48)] 24)).drew := (hB.alloc hB.size _).drew
    have g0 : (w1.alloc (.cells #[.int .i64 (stI (byZ s 0)), .int .i64 (alV (midB s)), .int .i64 (byZ s (s.size - 1) - 48)] 24)).drew.cell? ⟨w1.heap.size, 0, none⟩ = some (.int .i64 (stI (byZ s 0))) := by simp
    have g1 : (w1.alloc (.cells #[.int .i64 (stI (byZ s 0)), .int .i64 (alV (midB s)), .int .i64 (byZ s (s.size - 1) - 48)] 24)).drew.cell? ⟨w1.heap.size, 1, none⟩ = some (.int .i64 (alV (midB s))) := by simp
    have g2 : (w1.alloc (.cells #[.int .i64 (stI (byZ s 0)), .int .i64 (alV (midB s)), .int .i64 (byZ s (s.size - 1) - 48)] 24)).drew.cell? ⟨w1.heap.size, 2, none⟩ = some (.int .i64 (byZ s (s.size - 1) - 48)) := by simp
    have r0 : (w1.alloc (.cells #[.int .i64 (stI (byZ s 0)), .int .i64 (alV (midB s)), .int .i64 (byZ s (s.size - 1) - 48)] 24)).drew.cell? ⟨w.heap.size, 0, none⟩ = some (.int .i64 0) := by rw [World.cell?_drew, World.cell?_alloc_lt _ _ _ hz1, hc1 _ _ n1]; simp
    have r1 : (w1.alloc (.cells #[.int .i64 (stI (byZ s 0)), .int .i64 (alV (midB s)), .int .i64 (byZ s (s.size - 1) - 48)] 24)).drew.cell? ⟨w.heap.size, 1, none⟩ = some (.int .i64 0) := by rw [World.cell?_drew, World.cell?_alloc_lt _ _ _ hz1, hc1 _ _ n1]; simp
    have r2 : (w1.alloc (.cells #[.int .i64 (stI (byZ s 0)), .int .i64 (alV (midB s)), .int .i64 (byZ s (s.size - 1) - 48)] 24)).drew.cell? ⟨w.heap.size, 2, none⟩ = some (.int .i64 0) := by rw [World.cell?_drew, World.cell?_alloc_lt _ _ _ hz1, hc1 _ _ n1]; simp
    have s0 : (w1.alloc (.cells #[.int .i64 (stI (byZ s 0)), .int .i64 (alV (midB s)), .int .i64 (byZ s (s.size - 1) - 48)] 24)).drew.frozen? ⟨w.heap.size, 0, none⟩ = false := by
      rw [((Below.refl w1.heap.size w1).alloc (Nat.le_refl _) (.cells #[.int .i64 (stI (byZ s 0)), .int .i64 (alV (midB s)), .int .i64 (byZ s (s.size - 1) - 48)] 24)).drew.frozen (p := ⟨w.heap.size, 0, none⟩) hz1, hf1 _ _ n1]; exact World.frozen?_alloc_at _ _ _ _ rfl
    have s1 : (w1.alloc (.cells #[.int .i64 (stI (byZ s 0)), .int .i64 (alV (midB s)), .int .i64 (byZ s (s.size - 1) - 48)] 24)).drew.frozen? ⟨w.heap.size, 1, none⟩ = false := by
      rw [((Below.refl w1.heap.size w1).alloc (Nat.le_refl _) (.cells #[.int .i64 (stI (byZ s 0)), .int .i64 (alV (midB s)), .int .i64 (byZ s (s.size - 1) - 48)] 24)).drew.frozen (p := ⟨w.heap.size, 1, none⟩) hz1, hf1 _ _ n1]; exact World.frozen?_alloc_at _ _ _ _ rfl
    have s2 : (w1.alloc (.cells #[.int .i64 (stI (byZ s 0)), .int .i64 (alV (midB s)), .int .i64 (byZ s (s.size - 1) - 48)] 24)).drew.frozen? ⟨w.heap.size, 2, none⟩ = false := by
      rw [((Below.refl w1.heap.size w1).alloc (Nat.le_refl _) (.cells #[.int .i64 (stI (byZ s 0)), .int .i64 (alV (midB s)), .int .i64 (byZ s (s.size - 1) - 48)] 24)).drew.frozen (p := ⟨w.heap.size, 2, none⟩) hz1, hf1 _ _ n1]; exact World.frozen?_alloc_at _ _ _ _ rfl
    have hzq : w1.heap.size < (w1.alloc (.cells #[.int .i64 (stI (byZ s 0)), .int .i64 (alV (midB s)), .int .i64 (byZ s (s.size - 1) - 48)] 24)).drew.heap.size := by show w1.heap.size < (w1.alloc (.cells #[.int .i64 (stI (byZ s 0)), .int .i64 (alV (midB s)), .int .i64 (byZ s (s.size - 1) - 48)] 24)).heap.size; simp
    have hzr : w.heap.size < (w1.alloc (.cells #[.int .i64 (stI (byZ s 0)), .int .i64 (alV (midB s)), .int .i64 (byZ s (s.size - 1) - 48)] 24)).drew.heap.size := Nat.lt_trans hz1 hzq
    clear hc1 hf1 hB1 n1 hB
    revert hBW g0 g1 g2 r0 r1 r2 s0 s1 s2 hzq hzr
    generalize (w1.alloc (.cells #[.int .i64 (stI (byZ s 0)), .int .i64 (alV (midB s)), .int .i64 (byZ s (s.size - 1) - 48)] 24)).drew = W1
    generalize w1.heap.size = q at *
    intro hBW g0 g1 g2 r0 r1 r2 s0 s1 s2 hzq hzr
    by_cases hok : okA (midB s) = true
    · have ha : alV (midB s) = alZ (midB s) := by simp [okA] at hok; simp [alV, hok]
      by_cases hv : pvB (stI (byZ s 0)) (alV (midB s)) (byZ s (s.size - 1) - 48) = true
      · have hr : rdOk s = true := by
          unfold rdOk
          rw [← ha, hv]
          simp [h]
        have HR := hid (⟨hr, ha⟩ : rdOk s = true ∧ alV (midB s) = alZ (midB s))
        clear hr ha
        go_wp2_with (go_at_call 8; refine (pvI_any _ _ _ _).mono ?_; rintro e w1 ⟨rfl, hb⟩; (first | have hA2 := btr hA hb | have hA2 := hb); (try clear hA hc hf hz); clear hb; have hA := hA2; clear hA2; obtain ⟨hc, hf⟩ := bcell hA; have hz := hA.size; try simp only [World.size_alloc1] at hz)
        refine bodyPost_ret (v := .tuple #[.agg #[.int .i64 (stI (byZ s 0)), .int .i64 (alV (midB s)), .int .i64 (byZ s (s.size - 1) - 48)], .bool true]) (by simp [results, Tryd.results17, go_sem, hc, r0, r1, r2, hzr]) rfl ⟨by rw [if_pos HR.out.1, HR.out.2], ?_⟩
        exact below_w3 (btr hBW hA) _ _ _
      · have hr : ¬ rdOk s = true := by
          unfold rdOk
          rw [← ha]
          simp [hv]
        rw [Bool.not_eq_true] at hv
        have HR := hid hr
        clear hr ha
        go_wp2_with (go_at_call 8; refine (pvI_any _ _ _ _).mono ?_; rintro e w1 ⟨rfl, hb⟩; (first | have hA2 := btr hA hb | have hA2 := hb); (try clear hA hc hf hz); clear hb; have hA := hA2; clear hA2; obtain ⟨hc, hf⟩ := bcell hA; have hz := hA.size; try simp only [World.size_alloc1] at hz)
        refine bodyPost_ret (v := .tuple #[.agg #[.int .i64 0, .int .i64 0, .int .i64 0], .bool false]) (by simp [results, Tryd.results17, go_sem, hc, r0, r1, r2, hzr]) rfl ⟨by rw [if_neg HR.out], ?_⟩
        exact below_w3 (btr hBW hA) _ _ _
    · have hr : ¬ rdOk s = true := by
        unfold rdOk
        simp [okA] at hok
        intro e
        simp only [Bool.and_eq_true] at e
        have := pvB_iff.1 e.2
        omega
      rw [Bool.not_eq_true] at hok
      have HR := hid hr
      clear hr
      go_wp2
      refine bodyPost_ret (v := .tuple #[.agg #[.int .i64 0, .int .i64 0, .int .i64 0], .bool false]) (by simp [results, Tryd.results17, go_sem, r0, r1, r2]) rfl ⟨by rw [if_neg HR.out], ?_⟩
      exact below_w3 hBW _ _ _
end Go.Proofs.YtkdkmhidkaohoaaDoor
