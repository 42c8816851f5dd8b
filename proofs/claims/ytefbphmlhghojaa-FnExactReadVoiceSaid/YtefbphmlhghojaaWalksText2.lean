/- PitchText in the program, and what it calls. -/
import Derived.Test.YtefbphmlhghojaaWalksText
import Derived.Test.YtefbphmlhghojaaShelf
import Derived.Deep.RegionHeld3
import Derived.Lib.ItoaNum
namespace Go.Proofs.Ytefbphmlhghojaa
set_option linter.unusedSimpArgs false
set_option linter.unusedVariables false
open Go.RowKit

theorem rep_list (x : UInt8) (c : Nat) : (⟨(Lib.repeatL (⟨#[x]⟩ : ByteArray).data.toList c).toArray⟩ : ByteArray) = repB x c := by
  have := Lib.repeatL_replicate x 1 c
  simp only [Nat.mul_one] at this
  rw [repB, ← this]
  rfl

theorem rep_any (x : UInt8) (c : Int) (w : World) (h0 : 0 ≤ c) (h1 : c ≤ 2) :
    Calls Try.prog 44 #[.string ⟨#[x]⟩, .int .i64 c] w fun e w' => e = .returned (.string (repB x c.toNat)) ∧ Below w.heap.size w w' := by
  have h := Try.strings_Repeat ⟨#[x]⟩ c.toNat w (by omega) (by show 1 * c.toNat ≤ _; omega)
  rw [show ((c.toNat : Nat) : Int) = c by omega] at h
  refine h.mono fun e w' ⟨he, hb⟩ => ⟨?_, hb⟩
  rw [he, rep_list]

set_option maxHeartbeats 400000 in
theorem alt_any (a : Int) (w : World) (h0 : -2 ≤ a) (h1 : a ≤ 2) :
    Calls Try.prog 40 #[.int .i64 a] w fun e w' => e = .returned (.string (altB a)) ∧ Below w.heap.size w w' := by
  by_cases ha : a < 0
  · have HE := hid (show altB a = repB 98 (-a).toNat by rw [altB, if_pos ha])
    go_enter Try.func40, Try.ntmps40
    go_wp2_with (go_at_call 44; refine (rep_any _ _ _ (by omega) (by omega)).mono ?_; rintro e w1 ⟨rfl, hb⟩)
    go_ret
    exact ⟨by rw [HE.out]; rfl, hb⟩
  · have HE := hid (show altB a = repB 35 a.toNat by rw [altB, if_neg ha])
    have ha2 : 0 ≤ a := by omega
    go_enter Try.func40, Try.ntmps40
    go_wp2_with (go_at_call 44; refine (rep_any _ _ _ (by omega) (by omega)).mono ?_; rintro e w1 ⟨rfl, hb⟩)
    go_ret
    exact ⟨by rw [HE.out]; rfl, hb⟩