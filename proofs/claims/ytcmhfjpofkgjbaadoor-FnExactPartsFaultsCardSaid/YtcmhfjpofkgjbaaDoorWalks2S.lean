/- Chapter 2 in the model. -/
import Derived.Test.YtcmhfjpofkgjbaaDoorWalksKey
import Derived.Test.YtcmhfjpofkgjbaaDoorPure1
import Derived.Deep.CutRange
import Derived.Deep.DeepCutAuto
namespace Go.Proofs.YtcmhfjpofkgjbaaDoor
set_option linter.unusedSimpArgs false
set_option linter.unusedVariables false
set_option maxRecDepth 8000
open Go.RowKit

set_option maxHeartbeats 1000000 in
theorem quS_any (st ha : Int) (w : World) (h0 : -21 ≤ st) (h1 : st ≤ 21) (h2 : -60 ≤ ha) (h3 : ha ≤ 60) :
    Calls Tryd.prog 66 #[.agg #[.int .i64 st, .int .i64 ha]] w fun e w' => e = .returned (.int .i64 (quZ st ha)) ∧ Below w.heap.size w w' := by
  have HS := hid (boxT_new w (.int .i64 st) (.int .i64 ha) 92)
  by_cases hd : st < 0 ∨ (st = 0 ∧ ha < 0)
  · have hn := natZ_bd (p := -st) (by omega)
    have hn2 : natZ (-st) ≤ 50 := by omega
    have HE := hid (show quZ st ha = -ha - natZ (-st) by rw [quZ, if_pos hd])
    have m1 : IntKind.i64.wrap (-ha) = -ha := IntWalk.i64_in _ (by omega)
    have m2 : IntKind.i64.wrap (-st) = -st := IntWalk.i64_in _ (by omega)
    have m3 : IntKind.i64.wrap (-ha - natZ (-st)) = -ha - natZ (-st) := IntWalk.i64_in _ (by omega)
    by_cases hs : st < 0
    · clear hd
      go_enter Tryd.func66, Tryd.ntmps66
      go_wp2_with fail
      have hS := HS.out
      go_region_held3 (fun W => W.cell? ⟨w.heap.size, 0, none⟩ = some (.int .i64 st) ∧ W.cell? ⟨w.heap.size, 1, none⟩ = some (.int .i64 ha) ∧ w.heap.size < W.heap.size ∧ Below w.heap.size w W) (first | exact boxT_below (by assumption) (by assumption) | exact boxT_below hS (below_drew1 _))
        (first | (go_at_call 57; refine (natural_any _ _ (by omega) (by omega)).mono ?_; rintro e w1 ⟨rfl, hb⟩))
      go_wp2
      go_ret
      exact ⟨ret_int (by rw [HE.out]), boxT_last (by assumption)⟩
    · have hz : (st == 0) = true := by simp; omega
      have hh : ha < 0 := by omega
      clear hd
      go_enter Tryd.func66, Tryd.ntmps66
      go_wp2_with fail
      have hS := HS.out
      go_region_held3 (fun W => W.cell? ⟨w.heap.size, 0, none⟩ = some (.int .i64 st) ∧ W.cell? ⟨w.heap.size, 1, none⟩ = some (.int .i64 ha) ∧ w.heap.size < W.heap.size ∧ Below w.heap.size w W) (first | exact boxT_below (by assumption) (by assumption) | exact boxT_below hS (below_drew1 _))
        (first | (go_at_call 57; refine (natural_any _ _ (by omega) (by omega)).mono ?_; rintro e w1 ⟨rfl, hb⟩))
      go_wp2
      go_ret
      exact ⟨ret_int (by rw [HE.out]), boxT_last (by assumption)⟩
  · have hn := natZ_bd (p := st) (by omega)
    have hn2 : natZ st ≤ 50 := by omega
    have HE := hid (show quZ st ha = ha - natZ st by rw [quZ, if_neg hd])
    have m3 : IntKind.i64.wrap (ha - natZ st) = ha - natZ st := IntWalk.i64_in _ (by omega)
    have hs : ¬ st < 0 := by omega
    by_cases hz0 : st = 0
    · have hz : (st == 0) = true := by simp; omega
      have hh : ¬ ha < 0 := by omega
      clear hd hz0
      go_enter Tryd.func66, Tryd.ntmps66
      go_wp2_with fail
      have hS := HS.out
      go_region_held3 (fun W => W.cell? ⟨w.heap.size, 0, none⟩ = some (.int .i64 st) ∧ W.cell? ⟨w.heap.size, 1, none⟩ = some (.int .i64 ha) ∧ w.heap.size < W.heap.size ∧ Below w.heap.size w W) (first | exact boxT_below (by assumption) (by assumption) | exact boxT_below hS (below_drew1 _))
        (first | (go_at_call 57; refine (natural_any _ _ (by omega) (by omega)).mono ?_; rintro e w1 ⟨rfl, hb⟩))
      go_wp2
      go_ret
      exact ⟨ret_int (by rw [HE.out]), boxT_last (by assumption)⟩
    · have hz : (st == 0) = false := by simp; omega
      clear hd hz0
      go_enter Tryd.func66, Tryd.ntmps66
      go_wp2_with fail
      have hS := HS.out
      go_region_held3 (fun W => W.cell? ⟨w.heap.size, 0, none⟩ = some (.int .i64 st) ∧ W.cell? ⟨w.heap.size, 1, none⟩ = some (.int .i64 ha) ∧ w.heap.size < W.heap.size ∧ Below w.heap.size w W) (first | exact boxT_below (by assumption) (by assumption) | exact boxT_below hS (below_drew1 _))
        (first | (go_at_call 57; refine (natural_any _ _ (by omega) (by omega)).mono ?_; rintro e w1 ⟨rfl, hb⟩))
      go_wp2
      go_ret
      exact ⟨ret_int (by rw [HE.out]), boxT_last (by assumption)⟩

set_option maxHeartbeats 1000000 in
theorem ivS_any (st ha : Int) (w : World) :
    Calls Tryd.prog 63 #[.agg #[.int .i64 st, .int .i64 ha]] w fun e w' => e = .returned (.bool (ivB st ha)) ∧ Below w.heap.size w w' := by
  by_cases h1 : inB st (-21) 21 = true
  · by_cases h2 : inB ha (-60) 60 = true
    · have HE := hid (show ivB st ha = inB (quZ st ha) (-3) 3 by unfold ivB; simp [h1, h2])
      obtain ⟨a1, a2⟩ := inB_iff.1 h1
      obtain ⟨b1, b2⟩ := inB_iff.1 h2
      go_enter Tryd.func63, Tryd.ntmps63
      go_wp2_with (first | (go_at_call 38; refine (in_any _ _ _ _).mono ?_; rintro e w1 ⟨rfl, rfl⟩) | (go_at_call 66; refine (quS_any _ _ _ a1 a2 b1 b2).mono ?_; rintro e w1 ⟨rfl, hb⟩; (first | have hA2 := btr hA hb | have hA2 := hb); (try clear hA hc hf hz); clear hb; have hA := hA2; clear hA2; obtain ⟨hc, hf⟩ := bcell hA; have hz := hA.size; try simp only [World.size_alloc1] at hz))
      go_ret
      exact ⟨ret_bool (by rw [HE.out]), boxed1 hA⟩
    · rw [Bool.not_eq_true] at h2
      have HE := hid (show ivB st ha = false by unfold ivB; simp [h1, h2])
      go_enter Tryd.func63, Tryd.ntmps63
      go_wp2_with (go_at_call 38; refine (in_any _ _ _ _).mono ?_; rintro e w1 ⟨rfl, rfl⟩)
      go_ret
      exact ⟨ret_bool (by rw [HE.out]), below1 _⟩
  · rw [Bool.not_eq_true] at h1
    have HE := hid (show ivB st ha = false by unfold ivB; simp [h1])
    go_enter Tryd.func63, Tryd.ntmps63
    go_wp2_with (go_at_call 38; refine (in_any _ _ _ _).mono ?_; rintro e w1 ⟨rfl, rfl⟩)
    go_ret
    exact ⟨ret_bool (by rw [HE.out]), below1 _⟩

def qaZ (st ha : Int) : Int := if ivB st ha then quZ st ha else -9

theorem set2_of {w w1 : World} {b : Nat} (h : Below w.heap.size w w1) (hb : w.heap.size ≤ b) (x y : Value) : Below w.heap.size w ((w1.setCell ⟨b, 0, none⟩ x).setCell ⟨b, 1, none⟩ y) :=
  (h.setCell hb _).setCell hb _

/- IntervalOf and AddInterval in the model. -/
open Go.RowKit

theorem keyZ_bd {s a o : Int} (hv : pvB s a o = true) : -2 ≤ keyZ s a o ∧ keyZ s a o ≤ 109 := by
  obtain ⟨⟨h1, h2⟩, ⟨h3, h4⟩, ⟨h5, h6⟩⟩ := pvB_iff.1 hv
  have := halZ_bd s
  rw [keyZ, if_pos hv, natZ_os h1 h2]
  omega