/- Chapter 4 in the program: the tables of bases and dots; values and their ticks. -/
import Derived.Test.YtcifmpjefhichabDoorWalks4S
import Derived.Test.YtcifmpjefhichabDoorWalksKey
namespace Go.Proofs.YtcifmpjefhichabDoor
set_option linter.unusedSimpArgs false
set_option linter.unusedVariables false
open Go.RowKit Go.Joins

/-- A call that turns nothing leaves what lies below. -/
theorem still {P : Program} {f : FuncId} {args : Array Value} {w : World} {v : Value} (h : Calls P f args w fun e w' => e = .returned v ∧ w = w') : Calls P f args w fun e w' => e = .returned v ∧ Below w.heap.size w w' :=
  h.mono fun _ _ ⟨he, hw⟩ => ⟨he, hw ▸ Below.refl _ _⟩

def basL : List Int := [1, 2, 4, 8, 16]
def dotL : List Int := [4, 6, 7]
/-- The tables of bases and of dots lie as the text lays them. -/
def TabB (w : World) : Prop := Lib.TabIs Tryd.prog w "loop.example/musicengine/impl.valueBases" .i64 basL
def TabD (w : World) : Prop := Lib.TabIs Tryd.prog w "loop.example/musicengine/impl.dotQuarters" .i64 dotL
theorem gB : Tryd.prog.globalNamed "loop.example/musicengine/impl.valueBases" = some 0 := by kernel_rfl
theorem TabB.below {w w' : World} (h : TabB w) (hb : Below w.heap.size w w') : TabB w' := tab_stays gB h hb (Nat.le_refl _)
theorem TabB.cell {w : World} (h : TabB w) {k : Nat} (h5 : k < 5) : w.cell? ⟨0, k, none⟩ = some (.int .i64 (pw k)) := by
  rw [Lib.TabIs.cell h gB k (by simp [basL]; omega)]
  obtain rfl | rfl | rfl | rfl | rfl : k = 0 ∨ k = 1 ∨ k = 2 ∨ k = 3 ∨ k = 4 := by omega
  all_goals rfl
/-- The array of bases, by value: its element at a known place. -/
theorem idx_bas (k : Nat) (h5 : k < 5) (w : World) :
    (Instr.index 30 (.agg #[.int .i64 1, .int .i64 2, .int .i64 4, .int .i64 8, .int .i64 16]) (.int .i64 k)).run Tryd.prog w = .ok (.int .i64 (pw k)) w := by
  obtain rfl | rfl | rfl | rfl | rfl : k = 0 ∨ k = 1 ∨ k = 2 ∨ k = 3 ∨ k = 4 := by omega
  all_goals kernel_rfl
theorem base_hit {b : Int} {k : Nat} (h5 : k < 5) (h : b = pw k) : baseB b = true := by
  subst h
  obtain rfl | rfl | rfl | rfl | rfl : k = 0 ∨ k = 1 ∨ k = 2 ∨ k = 3 ∨ k = 4 := by omega
  all_goals decide
theorem base_miss {b : Int} (h : ∀ k : Nat, k < 5 → b ≠ pw k) : baseB b = false := by
  rw [← Bool.not_eq_true, baseB_iff]
  rintro (rfl | rfl | rfl | rfl | rfl)
  · exact h 0 (by omega) rfl
  · exact h 1 (by omega) rfl
  · exact h 2 (by omega) rfl
  · exact h 3 (by omega) rfl
  · exact h 4 (by omega) rfl

set_option maxHeartbeats 1000000 in
theorem bvI_any (b : Int) (w : World) (hT : TabB w) :
    Calls Tryd.prog 8 #[.int .i64 b] w fun e w' => e = .returned (.bool (baseB b)) ∧ w = w' := by
  have c0 := hT.cell (k := 0) (by omega)
  have c1 := hT.cell (k := 1) (by omega)
  have c2 := hT.cell (k := 2) (by omega)
  have c3 := hT.cell (k := 3) (by omega)
  have c4 := hT.cell (k := 4) (by omega)
  rw [show pw 0 = 1 by decide] at c0
  rw [show pw 1 = 2 by decide] at c1
  rw [show pw 2 = 4 by decide] at c2
  rw [show pw 3 = 8 by decide] at c3
  rw [show pw 4 = 16 by decide] at c4
  go_enter Tryd.func8, Tryd.ntmps8
  go_wp2
  go_loop [4, 6] (fun _ i => ∃ k : Nat, k ≤ 5 ∧ i = .int .i64 k ∧ Hid (∀ j : Nat, j < k → b ≠ pw j)) (fun _ i => (5 - intOf i).toNat)
  case atStart => exact ⟨0, by omega, rfl, fun j hj => by omega⟩
  case round =>
    obtain ⟨k, hk, rfl, hN⟩ := hrel
    clear hT c0 c1 c2 c3 c4
    by_cases h5 : k = 5
    · subst h5
      go_wp2
      go_ret
      exact ⟨ret_bool (base_miss fun j hj => hN.out j hj).symm, rfl⟩
    · have hlt : k < 5 := by omega
      have hl2 : (k : Int) < 5 := by omega
      have hi : ∀ w' : World, (Instr.index 30 (.agg #[.int .i64 1, .int .i64 2, .int .i64 4, .int .i64 8, .int .i64 16]) (.int .i64 k)).run Tryd.prog w' = .ok (.int .i64 (pw k)) w' := idx_bas k hlt
      obtain ⟨p, hp⟩ : ∃ p, pw k = p := ⟨_, rfl⟩
      rw [hp] at hi
      clear h5 hk
      by_cases hb : b = p
      · have HB := hid (base_hit hlt (hb.trans hp.symm))
        subst hb
        clear hp
        go_wp2
        go_ret
        exact ⟨ret_bool HB.out.symm, rfl⟩
      · have HN := hid (show ∀ j : Nat, j < k + 1 → b ≠ pw j from fun j hj => by
          rcases (show j < k ∨ j = k by omega) with h | rfl
          · exact hN.out j h
          · rw [hp]; exact hb)
        clear hp
        go_wp2
        go_round
        case rel => exact ⟨k + 1, by omega, by go_num, HN⟩
        case measure => simp [intOf]; omega
theorem bvI_is {b : Int} {x : Bool} (w : World) (hT : TabB w) (h : baseB b = x) : Calls Tryd.prog 8 #[.int .i64 b] w fun e w' => e = .returned (.bool x) ∧ w = w' := by subst h; exact bvI_any b w hT

theorem vvB_parts (b d t : Int) : vvB b d t = (baseB b && (decide (0 ≤ d) && decide (d ≤ 2)) && (t == 1 || t == 3)) := rfl