/- PitchText in the model. -/
import Derived.Test.YtefbphmlhghojaaWalksPlace
import Derived.Test.YtefbphmlhghojaaPureText
namespace Go.Proofs.Ytefbphmlhghojaa
set_option linter.unusedSimpArgs false
set_option linter.unusedVariables false
open Go.RowKit

theorem letB_def (s : Int) : ({ data := #[67, 68, 69, 70, 71, 65, 66] } : ByteArray).extract s.toNat (s + 1).toNat = letB s := rfl

theorem conv_oct (o : Int) (W : World) : (convert 55 9 (.slice (some ⟨W.heap.size, 0, none⟩) 1 1)).run Try.prog (W.alloc (.cells #[.int .u8 (48 + o)] 5)) = .ok (.string (octB o)) (W.alloc (.cells #[.int .u8 (48 + o)] 5)) :=
  run_convert_bytes_arg _ 55 5 Try.underlying55 Try.underlying5 W.heap.size 0 1 1 [48 + o] rfl (fun i hi => by
    obtain rfl : i = 0 := by omega
    simp) 9 Try.underlying9
theorem octB_size (o : Int) : (octB o).size = 1 := rfl

set_option maxHeartbeats 1000000 in
theorem textS_yes (s a o : Int) (w : World) (hv : pvB s a o = true) :
    Calls Try.prog 21 #[.agg #[.int .i64 s, .int .i64 a, .int .i64 o]] w fun e w' => e = .returned (.string ((letB s ++ altB a) ++ octB o)) ∧ Below w.heap.size w w' := by
  obtain ⟨⟨h1, h2⟩, ⟨h3, h4⟩, ⟨h5, h6⟩⟩ := pvB_iff.1 hv
  have hL := letB_size h1 h2
  have hD := letB_def s
  go_enter Try.func21, Try.ntmps21
  go_wp2_with (go_at_call 31; refine (pvS_any _ _ _ _).mono ?_; rintro e w1 ⟨rfl, hb⟩; (first | have hA2 := btr hA hb | have hA2 := hb); (try clear hA hc hf hz); clear hb; have hA := hA2; clear hA2; obtain ⟨hc, hf⟩ := bcell hA; have hz := hA.size; try simp only [World.size_alloc1] at hz)
  clear hD
  go_loop [3, 4] (fun t i => ∃ (T : ByteArray) (k : Nat), k ≤ 2 ∧ (k : Int) ≤ max a 0 ∧ T.size = 1 + k ∧ Hid (T = letB s ++ repB 35 k) ∧ t = .string T ∧ i = .int .i64 k) (fun _ i => (2 - intOf i).toNat)
  case atStart => exact ⟨_, 0, by omega, by omega, hL, (by show letB s = _; rw [repB_zero, app_nil]), rfl, rfl⟩
  case round =>
    obtain ⟨T, k, hk, hka, hT, HT, rfl, rfl⟩ := hrel
    by_cases hlt : (k : Int) < a
    · have hsz : (T ++ (⟨#[35]⟩ : ByteArray)).size = 1 + (k + 1) := by rw [ByteArray.size_append, hT]; rfl
      go_wp2
      go_round
      case rel => exact ⟨_, k + 1, by omega, by omega, hsz, (by show _ = _; rw [HT.out, repB_succ]), rfl, by go_num⟩
      case measure => simp [intOf]; omega
    · have hke : Hid ((k : Int) = max a 0) := by show _ = _; omega
      go_wp2
      go_loop [3, 5] (fun t i => ∃ (T2 : ByteArray) (k2 : Nat), k2 ≤ 2 ∧ (k2 : Int) ≤ max (-a) 0 ∧ T2.size = 1 + k + k2 ∧ Hid (T2 = T ++ repB 98 k2) ∧ t = .string T2 ∧ i = .int .i64 k2) (fun _ i => (2 - intOf i).toNat)
      case atStart => exact ⟨T, 0, by omega, by omega, hT, (by show T = _; rw [repB_zero, app_nil]), rfl, rfl⟩
      case round =>
        obtain ⟨T2, k2, hk2, hka2, hT2, HT2, rfl, rfl⟩ := hrel
        by_cases hlt2 : (k2 : Int) < -a
        · have hsz : (T2 ++ (⟨#[98]⟩ : ByteArray)).size = 1 + k + (k2 + 1) := by rw [ByteArray.size_append, hT2]; rfl
          go_wp2
          go_round
          case rel => exact ⟨_, k2 + 1, by omega, by omega, hsz, (by show _ = _; rw [HT2.out, repB_succ]), rfl, by go_num⟩
          case measure => simp [intOf]; omega
        · have HF := hid (alt_done HT.out HT2.out hke.out (by omega))
          have hcv := fun W => conv_oct o W
          have ho1 := octB_size o
          go_wp2
          go_ret
          have hB := boxed1 hA
          exact ⟨by rw [← HF.out]; rfl, hB.alloc hB.size _⟩

set_option maxHeartbeats 1000000 in
theorem textS_no (s a o : Int) (w : World) (hv : pvB s a o = false) :
    Calls Try.prog 21 #[.agg #[.int .i64 s, .int .i64 a, .int .i64 o]] w fun e w' => e = .returned (.string ⟨#[]⟩) ∧ Below w.heap.size w w' := by
  go_enter Try.func21, Try.ntmps21
  go_wp2_with (go_at_call 31; refine (pvS_any _ _ _ _).mono ?_; rintro e w1 ⟨rfl, hb⟩; (first | have hA2 := btr hA hb | have hA2 := hb); (try clear hA hc hf hz); clear hb; have hA := hA2; clear hA2; obtain ⟨hc, hf⟩ := bcell hA; have hz := hA.size; try simp only [World.size_alloc1] at hz)
  go_ret
  exact ⟨rfl, boxed1 hA⟩

theorem textS_any (s a o : Int) (w : World) :
    Calls Try.prog 21 #[.agg #[.int .i64 s, .int .i64 a, .int .i64 o]] w fun e w' => e = .returned (.string (textB s a o)) ∧ Below w.heap.size w w' := by
  by_cases hv : pvB s a o = true
  · have := textS_yes s a o w hv
    simpa [textB, hv] using this
  · rw [Bool.not_eq_true] at hv
    have := textS_no s a o w hv
    simpa [textB, hv] using this
end Go.Proofs.Ytefbphmlhghojaa
