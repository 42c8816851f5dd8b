/- PitchText in the program, and what it calls. -/
import Derived.Test.YtefbphmlhghojaaDoorWalksText
import Derived.Test.YtefbphmlhghojaaDoorShelf
import Derived.Deep.RegionHeld3
import Derived.Lib.ItoaNum
namespace Go.Proofs.YtefbphmlhghojaaDoor
set_option linter.unusedSimpArgs false
set_option linter.unusedVariables false
open Go.RowKit

theorem rep_list (x : UInt8) (c : Nat) : (⟨(Lib.repeatL (⟨#[x]⟩ : ByteArray).data.toList c).toArray⟩ : ByteArray) = repB x c := by
  have := Lib.repeatL_replicate x 1 c
  simp only [Nat.mul_one] at this
  rw [repB, ← this]
  rfl

theorem rep_any (x : UInt8) (c : Int) (w : World) (h0 : 0 ≤ c) (h1 : c ≤ 2) :
    Calls Tryd.prog 67 #[.string ⟨#[x]⟩, .int .i64 c] w fun e w' => e = .returned (.string (repB x c.toNat)) ∧ Below w.heap.size w w' := by
  have h := Tryd.strings_Repeat ⟨#[x]⟩ c.toNat w (by omega) (by show 1 * c.toNat ≤ _; omega)
  rw [show ((c.toNat : Nat) : Int) = c by omega] at h
  refine h.mono fun e w' ⟨he, hb⟩ => ⟨?_, hb⟩
  rw [he, rep_list]

set_option maxHeartbeats 400000 in
theorem alt_any (a : Int) (w : World) (h0 : -2 ≤ a) (h1 : a ≤ 2) :
    Calls Tryd.prog 55 #[.int .i64 a] w fun e w' => e = .returned (.string (altB a)) ∧ Below w.heap.size w w' := by
  by_cases ha : a < 0
  · have HE := hid (show altB a = repB 98 (-a).toNat by rw [altB, if_pos ha])
    go_enter Tryd.func55, Tryd.ntmps55
    go_wp2_with (go_at_call 67; refine (rep_any _ _ _ (by omega) (by omega)).mono ?_; rintro e w1 ⟨rfl, hb⟩)
    go_ret
    exact ⟨by rw [HE.out]; rfl, hb⟩
  · have HE := hid (show altB a = repB 35 a.toNat by rw [altB, if_neg ha])
    have ha2 : 0 ≤ a := by omega
    go_enter Tryd.func55, Tryd.ntmps55
    go_wp2_with (go_at_call 67; refine (rep_any _ _ _ (by omega) (by omega)).mono ?_; rintro e w1 ⟨rfl, hb⟩)
    go_ret
    exact ⟨by rw [HE.out]; rfl, hb⟩

theorem itoa_oct (o : Int) (w : World) (h0 : 0 ≤ o) (h8 : o ≤ 8) :
    Calls Tryd.prog 35 #[.int .i64 o] w fun e w' => e = .returned (.string (octB o)) ∧ w = w' := by
  have h := Tryd.strconv_Itoa_small o.toNat (by omega) w
  rw [show ((o.toNat : Nat) : Int) = o by omega] at h
  refine h.mono fun e w' ⟨he, hw⟩ => ⟨?_, hw.symm⟩
  rw [he, octB, Lib.decDigits, dif_pos (by omega), show (48 + o).toNat = 48 + o.toNat by omega]

set_option maxHeartbeats 2000000 in
theorem textI_yes (s a o : Int) (w : World) (hv : pvB s a o = true) :
    Calls Tryd.prog 34 #[.agg #[.int .i64 s, .int .i64 a, .int .i64 o]] w fun e w' => e = .returned (.string ((letB s ++ altB a) ++ octB o)) ∧ Below w.heap.size w w' := by
  obtain ⟨⟨h1, h2⟩, ⟨h3, h4⟩, ⟨h5, h6⟩⟩ := pvB_iff.1 hv
  have hL := letB_size h1 h2
  have hD := letB_def s
  have hA1 := altB_size h3 h4
  have ho1 := octB_size o
  have hLA : (letB s ++ altB a).size ≤ 3 := by rw [ByteArray.size_append]; omega
  have m7 : (7 * o + s) % 7 = s := by omega
  go_enter Tryd.func34, Tryd.ntmps34
  go_wp2_with (first | (go_at_call 53; refine (number_yes s a o _ hv).mono ?_; rintro e w1 ⟨rfl, hb⟩; (first | have hA2 := btr hA hb | have hA2 := hb); (try clear hA hc hf hz); clear hb; have hA := hA2; clear hA2; obtain ⟨hc, hf⟩ := bcell hA; have hz := hA.size; try simp only [World.size_alloc1] at hz) | (go_at_call 54; refine (numPlace_of s a o _ hv).mono ?_; rintro e w1 ⟨rfl, rfl⟩))
  have hB := boxed1 hA
  clear hc hf
  simp only [m7]
  clear m7
  obtain ⟨u, hu⟩ : ∃ u : Int, Hid (u = s + 1) := ⟨_, rfl⟩
  have e1 : IntKind.i64.wrap (s + 1) = u := by rw [hu.out]; exact IntWalk.i64_in _ (by omega)
  have hDu : ({ data := #[67, 68, 69, 70, 71, 65, 66] } : ByteArray).extract s.toNat u.toNat = letB s := by rw [hu.out]; rfl
  have q1 : u ≤ 7 := by have := hu.out; omega
  have q2 : 0 ≤ u := by have := hu.out; omega
  have q3 : s ≤ u := by have := hu.out; omega
  clear hD
  have d7 : (7 * o + s).tdiv 7 = o := by rw [Int.tdiv_eq_ediv_of_nonneg (by omega)]; omega
  have e2 : IntKind.i64.wrap o = o := IntWalk.i64_in _ (by omega)
  have k1 : ∀ W, (Op.stringOp .add (letB s) (altB a)).run Tryd.prog W = .ok (.string (letB s ++ altB a)) W := fun W => run_string_add_sum W _ _ (by omega)
  have k2 : ∀ W, (Op.stringOp .add (letB s ++ altB a) (octB o)).run Tryd.prog W = .ok (.string (letB s ++ altB a ++ octB o)) W := fun W => run_string_add_sum W _ _ (by omega)
  clear hL hA1 ho1 hLA
  go_region_held3 (fun W => Below w.heap.size w W) (first | assumption | exact btr (by assumption) (by assumption) | exact btr hB (below_drew1 _))
    (first | (go_at_call 56; refine (numAlter_of s a o _ hv).mono ?_; rintro e w1 ⟨rfl, rfl⟩) | (go_at_call 55; refine (alt_any _ _ (by omega) (by omega)).mono ?_; rintro e w1 ⟨rfl, hb⟩) | (go_at_call 35; refine (itoa_oct _ _ (by omega) (by omega)).mono ?_; rintro e w1 ⟨rfl, rfl⟩))
  all_goals
    go_wp2
    go_ret
    exact ⟨rfl, by assumption⟩

set_option maxHeartbeats 400000 in
theorem textI_no (s a o : Int) (w : World) (hv : pvB s a o = false) :
    Calls Tryd.prog 34 #[.agg #[.int .i64 s, .int .i64 a, .int .i64 o]] w fun e w' => e = .returned (.string ⟨#[]⟩) ∧ Below w.heap.size w w' := by
  go_enter Tryd.func34, Tryd.ntmps34
  go_wp2_with (go_at_call 53; refine (number_no s a o _ hv).mono ?_; rintro e w1 ⟨rfl, hb⟩; (first | have hA2 := btr hA hb | have hA2 := hb); (try clear hA hc hf hz); clear hb; have hA := hA2; clear hA2; obtain ⟨hc, hf⟩ := bcell hA; have hz := hA.size; try simp only [World.size_alloc1] at hz)
  go_ret
  exact ⟨rfl, boxed1 hA⟩

theorem textI_any (s a o : Int) (w : World) :
    Calls Tryd.prog 34 #[.agg #[.int .i64 s, .int .i64 a, .int .i64 o]] w fun e w' => e = .returned (.string (textB s a o)) ∧ Below w.heap.size w w' := by
  by_cases hv : pvB s a o = true
  · have := textI_yes s a o w hv
    simpa [textB, hv] using this
  · rw [Bool.not_eq_true] at hv
    have := textI_no s a o w hv
    simpa [textB, hv] using this
end Go.Proofs.YtefbphmlhghojaaDoor
