/- Chapter 4 in the model: the list of all values. -/
import Derived.Test.YtblbfmijaalgcaaDoorWalks4S
namespace Go.Proofs.YtblbfmijaalgcaaDoor
set_option linter.unusedSimpArgs false
set_option linter.unusedVariables false
open Go.RowKit

theorem infoV : (Tryd.prog.info? 24).map (fun i => (i.zero, i.size, i.bytes)) = some (some (.agg #[.int .i64 0, .int .i64 0, .int .i64 0]), 3, 24) := by kernel_rfl

/-- The cells of a value. -/
def vC (v : Int × Int × Int) : List Value := [.int .i64 v.1, .int .i64 v.2.1, .int .i64 v.2.2]
/-- The cells of the first k values. -/
def vaC (k : Nat) : List Value := (vaL.take k).flatMap vC
theorem vaC_up {k : Nat} {b d t : Int} (h : vaL[k]? = some (b, d, t)) : vaC k ++ [.int .i64 b, .int .i64 d, .int .i64 t] = vaC (k + 1) := by
  unfold vaC
  rw [List.take_add_one, h, List.flatMap_append]
  simp [vC]
theorem one3v {x y z : Int} : ∀ u ∈ [Value.int .i64 x, .int .i64 y, .int .i64 z], u.oneCell' = true := by
  intro u hu
  simp at hu
  rcases hu with rfl | rfl | rfl <;> rfl
def pw (l : Nat) : Int := (2 : Int) ^ l
theorem pw_up (l : Nat) : 2 * pw l = pw (l + 1) := by unfold pw; rw [Int.pow_succ]; omega
theorem pw_bd0 : ∀ l : Fin 5, 1 ≤ pw l.val ∧ pw l.val ≤ 16 := by decide +kernel
theorem pw_bd {l : Nat} (h : l < 5) : 1 ≤ pw l ∧ pw l ≤ 16 := pw_bd0 ⟨l, h⟩
theorem pw_5 : pw 5 = 32 := by decide
theorem vaL_at0 : ∀ i : Fin 2, ∀ j : Fin 3, ∀ l : Fin 5, vaL[15 * i.val + 5 * j.val + l.val]? = some (pw l.val, (j.val : Int), 2 * (i.val : Int) + 1) := by decide +kernel
theorem vaL_at {i j l : Nat} (hi : i < 2) (hj : j < 3) (hl : l < 5) : vaL[15 * i + 5 * j + l]? = some (pw l, (j : Int), 2 * (i : Int) + 1) := vaL_at0 ⟨i, hi⟩ ⟨j, hj⟩ ⟨l, hl⟩

set_option maxHeartbeats 4000000 in
theorem vasS_any (w : World) : Calls Tryd.prog 39 #[] w (RowOut 24 3 30 (vaC 30) w) := by
  have hO := Own.start w
  have hF := True.intro
  obtain ⟨i0, hi, hz0, hz1, hz2⟩ := info_parts infoV
  go_enter Tryd.func39, Tryd.ntmps39
  go_wp2_with fail
  go_loopw [1, 2] (fun v t wr => ∃ i : Nat, i ≤ 2 ∧ t = .int .i64 (2 * (i : Int) + 1) ∧ Own w.heap.size (Below w.heap.size w) wr [.row 24 3 v (15 * i) (vaC (15 * i))]) (fun _ t _ => (5 - intOf t).toNat)
  case atStart => exact ⟨0, by omega, rfl, hO.allocRow (cur := #[]) (k := 0) (cap := 0) 3 (by omega) (by unfold maxLen; omega) rfl⟩
  case round =>
    clear hO
    obtain ⟨i, hi2, rfl, hO⟩ := hrel
    by_cases h2 : i = 2
    · subst h2
      go_wp2_with fail
      go_ret
      exact RowOut.mk hO
    · have hlt : i < 2 := by omega
      have q1 : 2 * (i : Int) + 1 ≤ 3 := by omega
      clear h2 hi2
      go_wp2_with fail
      go_loopw [1, 3] (fun v t wr => ∃ j : Nat, j ≤ 3 ∧ t = .int .i64 j ∧ Own w.heap.size (Below w.heap.size w) wr [.row 24 3 v (15 * i + 5 * j) (vaC (15 * i + 5 * j))]) (fun _ t _ => (3 - intOf t).toNat)
      case atStart => exact ⟨0, by omega, rfl, hO⟩
      case round =>
        clear hO
        obtain ⟨j, hj, rfl, hO⟩ := hrel
        by_cases h3 : j = 3
        · subst h3
          go_wp2_with fail
          go_roundw
          case rel => exact ⟨i + 1, by omega, by go_num, by rw [show 15 * (i + 1) = 15 * i + 5 * 3 by omega]; exact hO⟩
          case measure => simp [intOf]; omega
        · have hjl : j < 3 := by omega
          have q2 : (j : Int) ≤ 2 := by omega
          clear h3 hj
          go_wp2_with fail
          go_loopw [1, 4] (fun v t wr => ∃ l : Nat, l ≤ 5 ∧ t = .int .i64 (pw l) ∧ Own w.heap.size (Below w.heap.size w) wr [.row 24 3 v (15 * i + 5 * j + l) (vaC (15 * i + 5 * j + l))]) (fun _ t _ => (32 - intOf t).toNat)
          case atStart => exact ⟨0, by omega, rfl, hO⟩
          case round =>
            clear hO
            obtain ⟨l, hl, rfl, hO⟩ := hrel
            by_cases h5 : l = 5
            · subst h5
              have p5 := pw_5
              go_wp2_with fail
              go_roundw
              case rel => exact ⟨j + 1, by omega, by go_num, by rw [show 15 * i + 5 * (j + 1) = 15 * i + 5 * j + 5 by omega]; exact hO⟩
              case measure => simp [intOf]; omega
            · have hll : l < 5 := by omega
              have pb := pw_bd hll
              have PU := hid (pw_up l)
              have HV := hid (vaL_at hlt hjl hll)
              clear h5 hl
              go_wp2_with (at_builtin; refine wpList_append_item rfl _ _ 51 rfl 24 i0 (.agg #[.int .i64 0, .int .i64 0, .int .i64 0]) 3 24 Tryd.underlying51 hi hz0 hz1 hz2 rfl (by decide) rfl rfl (Own.alloc hO) rfl one3v (by unfold maxLen; omega) (by omega) ?_; clear hO hF; intro v' w2 hO _; have hF := True.intro)
              go_roundw
              case rel =>
                refine ⟨l + 1, by omega, ?_, ?_⟩
                · rw [← PU.out]
                · rw [show 15 * i + 5 * j + (l + 1) = 15 * i + 5 * j + l + 1 by omega, ← vaC_up HV.out]; exact hO
              case measure => simp [intOf]; omega
end Go.Proofs.YtblbfmijaalgcaaDoor
