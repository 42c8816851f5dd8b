/- Chapter 2 in the model. -/
import Derived.Test.YtcgcnkddgihkpaaDoorWalks1
import Derived.Test.YtcgcnkddgihkpaaDoorPure1
import Derived.Deep.CutRange
import Derived.Deep.DeepCutAuto
namespace Go.Proofs.YtcgcnkddgihkpaaDoor
set_option linter.unusedSimpArgs false
set_option linter.unusedVariables false
set_option maxRecDepth 8000
open Go.RowKit

set_option maxHeartbeats 1000000 in
theorem quS_any (st ha : Int) (w : World) (h0 : -21 ≤ st) (h1 : st ≤ 21) (h2 : -60 ≤ ha) (h3 : ha ≤ 60) :
    Calls Tryd.prog 93 #[.agg #[.int .i64 st, .int .i64 ha]] w fun e w' => e = .returned (.int .i64 (quZ st ha)) ∧ Below w.heap.size w w' := by
  have HS := hid (boxT_new w (.int .i64 st) (.int .i64 ha) 31)
  by_cases hd : st < 0 ∨ (st = 0 ∧ ha < 0)
  · have hn := natZ_bd (p := -st) (by omega)
    have hn2 : natZ (-st) ≤ 50 := by omega
    have HE := hid (show quZ st ha = -ha - natZ (-st) by rw [quZ, if_pos hd])
    have m1 : IntKind.i64.wrap (-ha) = -ha := IntWalk.i64_in _ (by omega)
    have m2 : IntKind.i64.wrap (-st) = -st := IntWalk.i64_in _ (by omega)
    have m3 : IntKind.i64.wrap (-ha - natZ (-st)) = -ha - natZ (-st) := IntWalk.i64_in _ (by omega)
    by_cases hs : st < 0
    · clear hd
      go_enter Tryd.func93, Tryd.ntmps93
      go_wp2_with fail
      have hS := HS.out
      go_region_held3 (fun W => W.cell? ⟨w.heap.size, 0, none⟩ = some (.int .i64 st) ∧ W.cell? ⟨w.heap.size, 1, none⟩ = some (.int .i64 ha) ∧ w.heap.size < W.heap.size ∧ Below w.heap.size w W) (first | exact boxT_below (by assumption) (by assumption) | exact boxT_below hS (below_drew1 _))
        (first | (go_at_call 90; refine (natural_any _ _ (by omega) (by omega)).mono ?_; rintro e w1 ⟨rfl, hb⟩))
      go_wp2
      go_ret
      exact ⟨ret_int (by rw [HE.out]), boxT_last (by assumption)⟩
    · have hz : (st == 0) = true := by simp; omega
      have hh : ha < 0 := by omega
      clear hd
      go_enter Tryd.func93, Tryd.ntmps93
      go_wp2_with fail
      have hS := HS.out
      go_region_held3 (fun W => W.cell? ⟨w.heap.size, 0, none⟩ = some (.int .i64 st) ∧ W.cell? ⟨w.heap.size, 1, none⟩ = some (.int .i64 ha) ∧ w.heap.size < W.heap.size ∧ Below w.heap.size w W) (first | exact boxT_below (by assumption) (by assumption) | exact boxT_below hS (below_drew1 _))
        (first | (go_at_call 90; refine (natural_any _ _ (by omega) (by omega)).mono ?_; rintro e w1 ⟨rfl, hb⟩))
      go_wp2
      go_ret
      exact ⟨ret_int (by rw [HE.out]), boxT_last (by assumption)⟩
  · have hn := natZ_bd (p := st) (by omega)
    have hn2 : natZ st ≤ 50 := by omega
    have HE := hid (show quZ st ha = ha - natZ st by rw [quZ, if_neg hd])
    have m3 : IntKind.i64.wrap (ha - natZ st) = ha - natZ st := IntWalk.i64_in _ (by omega)
    have hs : ¬ st < 0 := by omega
    by_cases hz0 : st = 0
    · have hz : (st == 0) = true := by simp; omega
      have hh : ¬ ha < 0 := by omega
      clear hd hz0
      go_enter Tryd.func93, Tryd.ntmps93
      go_wp2_with fail
      have hS := HS.out
      go_region_held3 (fun W => W.cell? ⟨w.heap.size, 0, none⟩ = some (.int .i64 st) ∧ W.cell? ⟨w.heap.size, 1, none⟩ = some (.int .i64 ha) ∧ w.heap.size < W.heap.size ∧ Below w.heap.size w W) (first | exact boxT_below (by assumption) (by assumption) | exact boxT_below hS (below_drew1 _))
        (first | (go_at_call 90; refine (natural_any _ _ (by omega) (by omega)).mono ?_; rintro e w1 ⟨rfl, hb⟩))
      go_wp2
      go_ret
      exact ⟨ret_int (by rw [HE.out]), boxT_last (by assumption)⟩
    · have hz : (st == 0) = false := by simp; omega
      clear hd hz0
      go_enter Tryd.func93, Tryd.ntmps93
      go_wp2_with fail
      have hS := HS.out
      go_region_held3 (fun W => W.cell? ⟨w.heap.size, 0, none⟩ = some (.int .i64 st) ∧ W.cell? ⟨w.heap.size, 1, none⟩ = some (.int .i64 ha) ∧ w.heap.size < W.heap.size ∧ Below w.heap.size w W) (first | exact boxT_below (by assumption) (by assumption) | exact boxT_below hS (below_drew1 _))
        (first | (go_at_call 90; refine (natural_any _ _ (by omega) (by omega)).mono ?_; rintro e w1 ⟨rfl, hb⟩))
      go_wp2
      go_ret
      exact ⟨ret_int (by rw [HE.out]), boxT_last (by assumption)⟩

set_option maxHeartbeats 1000000 in
theorem ivS_any (st ha : Int) (w : World) :
    Calls Tryd.prog 70 #[.agg #[.int .i64 st, .int .i64 ha]] w fun e w' => e = .returned (.bool (ivB st ha)) ∧ Below w.heap.size w w' := by
  by_cases h1 : inB st (-21) 21 = true
  · by_cases h2 : inB ha (-60) 60 = true
    · have HE := hid (show ivB st ha = inB (quZ st ha) (-3) 3 by unfold ivB; simp [h1, h2])
      obtain ⟨a1, a2⟩ := inB_iff.1 h1
      obtain ⟨b1, b2⟩ := inB_iff.1 h2
      go_enter Tryd.func70, Tryd.ntmps70
      go_wp2_with (first | (go_at_call 55; refine (in_any _ _ _ _).mono ?_; rintro e w1 ⟨rfl, rfl⟩) | (go_at_call 93; refine (quS_any _ _ _ a1 a2 b1 b2).mono ?_; rintro e w1 ⟨rfl, hb⟩; (first | have hA2 := btr hA hb | have hA2 := hb); (try clear hA hc hf hz); clear hb; have hA := hA2; clear hA2; obtain ⟨hc, hf⟩ := bcell hA; have hz := hA.size; try simp only [World.size_alloc1] at hz))
      go_ret
      exact ⟨ret_bool (by rw [HE.out]), boxed1 hA⟩
    · rw [Bool.not_eq_true] at h2
      have HE := hid (show ivB st ha = false by unfold ivB; simp [h1, h2])
      go_enter Tryd.func70, Tryd.ntmps70
      go_wp2_with (go_at_call 55; refine (in_any _ _ _ _).mono ?_; rintro e w1 ⟨rfl, rfl⟩)
      go_ret
      exact ⟨ret_bool (by rw [HE.out]), below1 _⟩
  · rw [Bool.not_eq_true] at h1
    have HE := hid (show ivB st ha = false by unfold ivB; simp [h1])
    go_enter Tryd.func70, Tryd.ntmps70
    go_wp2_with (go_at_call 55; refine (in_any _ _ _ _).mono ?_; rintro e w1 ⟨rfl, rfl⟩)
    go_ret
    exact ⟨ret_bool (by rw [HE.out]), below1 _⟩

def qaZ (st ha : Int) : Int := if ivB st ha then quZ st ha else -9

set_option maxHeartbeats 1000000 in
theorem backS_yes (st ha : Int) (w : World) (hv : ivB st ha = true) :
    Calls Tryd.prog 75 #[.agg #[.int .i64 st, .int .i64 ha]] w fun e w' => e = .returned (.agg #[.int .i64 (-st), .int .i64 (-ha)]) ∧ Below w.heap.size w w' := by
  obtain ⟨⟨a1, a2⟩, ⟨b1, b2⟩, _⟩ := ivB_iff.1 hv
  go_enter Tryd.func75, Tryd.ntmps75
  go_wp2_with fail
  refine (ivS_any _ _ _).mono ?_
  rintro e w1 ⟨rfl, hb⟩
  obtain ⟨hc, hf⟩ := bcell hb
  have hz := hb.size
  simp only [World.size_alloc1] at hz
  have hz0 : w.heap.size < w1.heap.size := by omega
  have hz1 : w.heap.size + 1 < w1.heap.size := by omega
  go_wp2
  refine bodyPost_ret (v := .agg #[.int .i64 (-st), .int .i64 (-ha)]) (by simp [results, Tryd.results75, go_sem, hc]) rfl ⟨rfl, ?_⟩
  exact ((boxed2 hb).setCell (by show w.heap.size ≤ w.heap.size + 1; omega) _).setCell (by show w.heap.size ≤ w.heap.size + 1; omega) _

set_option maxHeartbeats 1000000 in
theorem backS_no (st ha : Int) (w : World) (hv : ivB st ha = false) :
    Calls Tryd.prog 75 #[.agg #[.int .i64 st, .int .i64 ha]] w fun e w' => e = .returned (.agg #[.int .i64 0, .int .i64 0]) ∧ Below w.heap.size w w' := by
  go_enter Tryd.func75, Tryd.ntmps75
  go_wp2_with fail
  refine (ivS_any _ _ _).mono ?_
  rintro e w1 ⟨rfl, hb⟩
  obtain ⟨hc, hf⟩ := bcell hb
  have hz := hb.size
  simp only [World.size_alloc1] at hz
  have hz0 : w.heap.size < w1.heap.size := by omega
  have hz1 : w.heap.size + 1 < w1.heap.size := by omega
  go_wp2
  refine bodyPost_ret (v := .agg #[.int .i64 0, .int .i64 0]) (by simp [results, Tryd.results75, go_sem, hc]) rfl ⟨rfl, ?_⟩
  exact ((boxed2 hb).setCell (by show w.heap.size ≤ w.heap.size + 1; omega) _).setCell (by show w.heap.size ≤ w.heap.size + 1; omega) _

theorem set2_of {w w1 : World} {b : Nat} (h : Below w.heap.size w w1) (hb : w.heap.size ≤ b) (x y : Value) : Below w.heap.size w ((w1.setCell ⟨b, 0, none⟩ x).setCell ⟨b, 1, none⟩ y) :=
  (h.setCell hb _).setCell hb _

/- IntervalOf and AddInterval in the model. -/
open Go.RowKit

theorem keyZ_bd {s a o : Int} (hv : pvB s a o = true) : -2 ≤ keyZ s a o ∧ keyZ s a o ≤ 109 := by
  obtain ⟨⟨h1, h2⟩, ⟨h3, h4⟩, ⟨h5, h6⟩⟩ := pvB_iff.1 hv
  have := halZ_bd s
  rw [keyZ, if_pos hv, natZ_os h1 h2]
  omega

/- AddInterval in the model. -/
open Go.RowKit

set_option maxHeartbeats 4000000 in
theorem adS_b (s a o st ha p : Int) (w : World) (v1 : pvB s a o = true) (v2 : ivB st ha = true) (hp : 7 * o + s + st = p) (hp0 : 0 ≤ p) (b : Bool) (v3 : pvB (p % 7) (keyZ s a o + ha - natZ p) (p / 7) = b) :
    Calls Tryd.prog 58 #[.agg #[.int .i64 s, .int .i64 a, .int .i64 o], .agg #[.int .i64 st, .int .i64 ha]] w fun e w' => e = .returned (.tuple #[.agg #[.int .i64 (if b then p % 7 else 0), .int .i64 (if b then keyZ s a o + ha - natZ p else 0), .int .i64 (if b then p / 7 else 0)], .bool b]) ∧ Below w.heap.size w w' := by
  have k1 := keyZ_bd v1
  have HV3 := hid v3
  clear v3
  have HP := hid hp
  obtain ⟨⟨h1, h2⟩, ⟨h3, h4⟩, ⟨h5, h6⟩⟩ := pvB_iff.1 v1
  obtain ⟨⟨g1, g2⟩, ⟨g3, g4⟩, _⟩ := ivB_iff.1 v2
  have nb := natZ_bd hp0
  have p1 : placeZ s a o = 7 * o + s := by simp [placeZ, v1]
  have d1 : IntKind.i64.wrap (7 * o + s + st) = p := by rw [hp]; exact IntWalk.i64_in _ (by omega)
  have d2 : IntKind.i64.wrap (keyZ s a o + ha) = keyZ s a o + ha := IntWalk.i64_in _ (by omega)
  have d3 : IntKind.i64.wrap (keyZ s a o + ha - natZ p) = keyZ s a o + ha - natZ p := IntWalk.i64_in _ (by omega)
  have p0 : ¬ p < 0 := by omega
  have pb : p ≤ 83 := by omega
  have t1 : p.tmod 7 = p % 7 := Int.tmod_eq_emod_of_nonneg hp0
  have t2 : p.tdiv 7 = p / 7 := Int.tdiv_eq_ediv_of_nonneg hp0
  have t3 : IntKind.i64.wrap (p % 7) = p % 7 := IntWalk.i64_in _ (by omega)
  have t4 : IntKind.i64.wrap (p / 7) = p / 7 := IntWalk.i64_in _ (by omega)
  clear hp
  go_enter Tryd.func58, Tryd.ntmps58
  go_wp2_with (first | (go_at_call 87; refine (pvS_any _ _ _ _).mono ?_; rintro e w1 ⟨rfl, hb⟩; (first | have hA2 := btr hA hb | have hA2 := hb); (try clear hA hc hf hz); clear hb; have hA := hA2; clear hA2; obtain ⟨hc, hf⟩ := bcell hA; have hz := hA.size; try simp only [World.size_alloc1] at hz) | (go_at_call 70; refine (ivS_any _ _ _).mono ?_; rintro e w1 ⟨rfl, hb⟩; (first | have hA2 := btr hA hb | have hA2 := hb); (try clear hA hc hf hz); clear hb; have hA := hA2; clear hA2; obtain ⟨hc, hf⟩ := bcell hA; have hz := hA.size; try simp only [World.size_alloc1] at hz))
  have hB := boxed3 hA
  have hS : BoxV w.heap.size w1 w1 (.int .i64 s) (.int .i64 a) (.int .i64 o) (.int .i64 st) (.int .i64 ha) := by
    refine ⟨?_, ?_, ?_, ?_, ?_, by omega, by omega, by omega, Below.refl _ _⟩
    all_goals (rw [hc _ _ (by simp only [World.size_alloc1]; omega)]; simp [go_sem])
  have r0 : NewC (w.heap.size + 1 + 1) w1 (.int .i64 0) (.int .i64 0) (.int .i64 0) := by
    refine newC_keep ⟨?_, ?_, ?_, ?_, ?_, ?_, ?_⟩ hA
    · simp [go_sem]
    · simp [go_sem]
    · simp [go_sem]
    · exact World.frozen?_alloc_at _ _ _ _ (by simp)
    · exact World.frozen?_alloc_at _ _ _ _ (by simp)
    · exact World.frozen?_alloc_at _ _ _ _ (by simp)
    · simp
  clear hc hf hA
  have HR0 := hid r0
  have hlt := r0.2.2.2.2.2.2
  clear r0 hz
  have hll : w1.heap.size ≤ w1.heap.size := Nat.le_refl _
  go_cut [6] (fun s6 wx => s6 = .int .i64 p ∧ BoxV w.heap.size w1 wx (.int .i64 s) (.int .i64 a) (.int .i64 o) (.int .i64 st) (.int .i64 ha))
  case first =>
    go_region_held3 (fun W => W.cell? ⟨w.heap.size, 0, none⟩ = some (.int .i64 s) ∧ W.cell? ⟨w.heap.size, 1, none⟩ = some (.int .i64 a) ∧ W.cell? ⟨w.heap.size, 2, none⟩ = some (.int .i64 o) ∧
        W.cell? ⟨w.heap.size + 1, 0, none⟩ = some (.int .i64 st) ∧ W.cell? ⟨w.heap.size + 1, 1, none⟩ = some (.int .i64 ha) ∧ w.heap.size < W.heap.size ∧ w.heap.size + 1 < W.heap.size ∧ w.heap.size + 1 + 1 < W.heap.size ∧ Below w1.heap.size w1 W)
      (first | assumption | exact boxV_below (by assumption) (by assumption) | exact boxV_below hS (below_drew1 _) | exact boxV_below (by assumption) (below1 _))
      (first | (go_at_call 88; refine (placeS_any _ _ _ _).mono ?_; rintro e w2 ⟨rfl, hb⟩))
    all_goals (go_wp2_with fail; go_meet)
    all_goals exact ⟨rfl, by assumption⟩
  case rest =>
    obtain ⟨rfl, hV⟩ := hcut
    have hss := (boxV_b hV).size
    go_wp2_with fail
    go_cut [7] (fun s7 wx => ∃ q : Nat, s7 = .pointer (some ⟨q, 0, none⟩) ∧ w.heap.size + 1 + 1 < q ∧ q < wx.heap.size ∧ wx.cell? ⟨q, 0, none⟩ = some (.int .i64 (p % 7)) ∧ wx.cell? ⟨q, 1, none⟩ = some (.int .i64 (keyZ s a o + ha - natZ p)) ∧ wx.cell? ⟨q, 2, none⟩ = some (.int .i64 (p / 7)) ∧ Below w1.heap.size w1 wx)
    case first =>
      go_region_held3 (fun W => W.cell? ⟨w.heap.size, 0, none⟩ = some (.int .i64 s) ∧ W.cell? ⟨w.heap.size, 1, none⟩ = some (.int .i64 a) ∧ W.cell? ⟨w.heap.size, 2, none⟩ = some (.int .i64 o) ∧
          W.cell? ⟨w.heap.size + 1, 0, none⟩ = some (.int .i64 st) ∧ W.cell? ⟨w.heap.size + 1, 1, none⟩ = some (.int .i64 ha) ∧ w.heap.size < W.heap.size ∧ w.heap.size + 1 < W.heap.size ∧ w.heap.size + 1 + 1 < W.heap.size ∧ Below w1.heap.size w1 W)
        (first | assumption | exact boxV_below (by assumption) (by assumption) | exact boxV_below hV (below_drew1 _) | exact boxV_below (by assumption) (below1 _) | exact boxV_re (by omega) (by assumption) | (refine boxV_set ?_ (boxV_set ?_ (boxV_set ?_ (by assumption) _) _) _ <;> omega) | trace_state)
        (first
          | (go_at_call 89; refine (keyS_any _ _ _ _).mono ?_; rintro e w2 ⟨rfl, hb⟩; (first | have hn := newC_new hb | have hn := newC_newD hb | replace hn := newC_keep hn hb | skip); have hss := hb.size; (try rw [World.size_drew] at hss); (try rw [World.size_alloc1] at hss))
          | (go_at_call 90; refine (natural_any _ _ (by omega) (by omega)).mono ?_; rintro e w2 ⟨rfl, hb⟩; (first | have hn := newC_new hb | have hn := newC_newD hb | replace hn := newC_keep hn hb | skip); have hss := hb.size; (try rw [World.size_drew] at hss); (try rw [World.size_alloc1] at hss)))
      all_goals (go_wp2_with fail; go_meet)
      all_goals first
        | exact ⟨_, rfl, by omega, by simp, by simp, by simp, by simp, boxV_b (by assumption)⟩
        | exact ⟨_, rfl, by omega, by rw [World.size_setCell, World.size_setCell, World.size_setCell]; exact hn.2.2.2.2.2.2, (newC_set hn _ _ _).2.2.1, (newC_set hn _ _ _).2.2.2.1, (newC_set hn _ _ _).2.2.2.2, boxV_b (by assumption)⟩
        | trace_state
    case rest =>
      obtain ⟨q, rfl, hq, hql, c0, c1, c2, hbx⟩ := hcut
      have r0 := newC_keep HR0.out hbx
      have hBc := btr hB hbx
      have v3 := HV3.out
      clear hbx
      obtain ⟨n0, n1, n2, n3, n4, n5, n6⟩ := r0
      have r0 : NewC (w.heap.size + 1 + 1) _ (.int .i64 0) (.int .i64 0) (.int .i64 0) := ⟨n0, n1, n2, n3, n4, n5, n6⟩
      cases b
      · go_wp2_with (go_at_call 87; refine (pvS_any _ _ _ _).mono ?_; rintro e w1 ⟨rfl, hb⟩; (first | have hA2 := btr hA hb | have hA2 := hb); (try clear hA hc hf hz); clear hb; have hA := hA2; clear hA2; obtain ⟨hc, hf⟩ := bcell hA; have hz := hA.size; try simp only [World.size_alloc1] at hz)
        have hN := newC_keep r0 hA
        obtain ⟨_, _, z2, z3, z4⟩ := newC_set hN (.int .i64 0) (.int .i64 0) (.int .i64 0)
        refine bodyPost_ret (v := .tuple #[.agg #[.int .i64 0, .int .i64 0, .int .i64 0], .bool false]) (by simp [results, Tryd.results58, go_sem, z2, z3, z4]) rfl ⟨rfl, ?_⟩
        exact set3_of (btr hBc hA) (by omega) _ _ _
      · go_wp2_with (go_at_call 87; refine (pvS_any _ _ _ _).mono ?_; rintro e w1 ⟨rfl, hb⟩; (first | have hA2 := btr hA hb | have hA2 := hb); (try clear hA hc hf hz); clear hb; have hA := hA2; clear hA2; obtain ⟨hc, hf⟩ := bcell hA; have hz := hA.size; try simp only [World.size_alloc1] at hz)
        have hN := newC_keep r0 hA
        obtain ⟨_, _, z2, z3, z4⟩ := newC_set hN (.int .i64 (p % 7)) (.int .i64 (keyZ s a o + ha - natZ p)) (.int .i64 (p / 7))
        refine bodyPost_ret (v := .tuple #[.agg #[.int .i64 (p % 7), .int .i64 (keyZ s a o + ha - natZ p), .int .i64 (p / 7)], .bool true]) (by simp [results, Tryd.results58, go_sem, z2, z3, z4]) rfl ⟨rfl, ?_⟩
        exact set3_of (btr hBc hA) (by omega) _ _ _
set_option maxHeartbeats 2000000 in
theorem adS_no1 (s a o st ha : Int) (w : World) (v1 : pvB s a o = false) :
    Calls Tryd.prog 58 #[.agg #[.int .i64 s, .int .i64 a, .int .i64 o], .agg #[.int .i64 st, .int .i64 ha]] w fun e w' => e = .returned (.tuple #[.agg #[.int .i64 0, .int .i64 0, .int .i64 0], .bool false]) ∧ Below w.heap.size w w' := by
  go_enter Tryd.func58, Tryd.ntmps58
  go_wp2_with (first | (go_at_call 87; refine (pvS_any _ _ _ _).mono ?_; rintro e w1 ⟨rfl, hb⟩; (first | have hA2 := btr hA hb | have hA2 := hb); (try clear hA hc hf hz); clear hb; have hA := hA2; clear hA2; obtain ⟨hc, hf⟩ := bcell hA; have hz := hA.size; try simp only [World.size_alloc1] at hz) | (go_at_call 70; refine (ivS_any _ _ _).mono ?_; rintro e w1 ⟨rfl, hb⟩; (first | have hA2 := btr hA hb | have hA2 := hb); (try clear hA hc hf hz); clear hb; have hA := hA2; clear hA2; obtain ⟨hc, hf⟩ := bcell hA; have hz := hA.size; try simp only [World.size_alloc1] at hz))
  refine bodyPost_ret (v := .tuple #[.agg #[.int .i64 0, .int .i64 0, .int .i64 0], .bool false]) (by simp [results, Tryd.results58, go_sem, hc]) rfl ⟨rfl, ?_⟩
  exact set3_of (boxed3 hA) (by omega) _ _ _

set_option maxHeartbeats 2000000 in
theorem adS_no2 (s a o st ha : Int) (w : World) (v1 : pvB s a o = true) (v2 : ivB st ha = false) :
    Calls Tryd.prog 58 #[.agg #[.int .i64 s, .int .i64 a, .int .i64 o], .agg #[.int .i64 st, .int .i64 ha]] w fun e w' => e = .returned (.tuple #[.agg #[.int .i64 0, .int .i64 0, .int .i64 0], .bool false]) ∧ Below w.heap.size w w' := by
  go_enter Tryd.func58, Tryd.ntmps58
  go_wp2_with (first | (go_at_call 87; refine (pvS_any _ _ _ _).mono ?_; rintro e w1 ⟨rfl, hb⟩; (first | have hA2 := btr hA hb | have hA2 := hb); (try clear hA hc hf hz); clear hb; have hA := hA2; clear hA2; obtain ⟨hc, hf⟩ := bcell hA; have hz := hA.size; try simp only [World.size_alloc1] at hz) | (go_at_call 70; refine (ivS_any _ _ _).mono ?_; rintro e w1 ⟨rfl, hb⟩; (first | have hA2 := btr hA hb | have hA2 := hb); (try clear hA hc hf hz); clear hb; have hA := hA2; clear hA2; obtain ⟨hc, hf⟩ := bcell hA; have hz := hA.size; try simp only [World.size_alloc1] at hz))
  refine bodyPost_ret (v := .tuple #[.agg #[.int .i64 0, .int .i64 0, .int .i64 0], .bool false]) (by simp [results, Tryd.results58, go_sem, hc]) rfl ⟨rfl, ?_⟩
  exact set3_of (boxed3 hA) (by omega) _ _ _

set_option maxHeartbeats 4000000 in
theorem adS_no3 (s a o st ha p : Int) (w : World) (v1 : pvB s a o = true) (v2 : ivB st ha = true) (hp : 7 * o + s + st = p) (p0 : p < 0) :
    Calls Tryd.prog 58 #[.agg #[.int .i64 s, .int .i64 a, .int .i64 o], .agg #[.int .i64 st, .int .i64 ha]] w fun e w' => e = .returned (.tuple #[.agg #[.int .i64 0, .int .i64 0, .int .i64 0], .bool false]) ∧ Below w.heap.size w w' := by
  have HP := hid hp
  obtain ⟨⟨h1, h2⟩, ⟨h3, h4⟩, ⟨h5, h6⟩⟩ := pvB_iff.1 v1
  obtain ⟨⟨g1, g2⟩, ⟨g3, g4⟩, _⟩ := ivB_iff.1 v2
  have p1 : placeZ s a o = 7 * o + s := by simp [placeZ, v1]
  have d1 : IntKind.i64.wrap (7 * o + s + st) = p := by rw [hp]; exact IntWalk.i64_in _ (by omega)
  clear hp
  go_enter Tryd.func58, Tryd.ntmps58
  go_wp2_with (first | (go_at_call 87; refine (pvS_any _ _ _ _).mono ?_; rintro e w1 ⟨rfl, hb⟩; (first | have hA2 := btr hA hb | have hA2 := hb); (try clear hA hc hf hz); clear hb; have hA := hA2; clear hA2; obtain ⟨hc, hf⟩ := bcell hA; have hz := hA.size; try simp only [World.size_alloc1] at hz) | (go_at_call 70; refine (ivS_any _ _ _).mono ?_; rintro e w1 ⟨rfl, hb⟩; (first | have hA2 := btr hA hb | have hA2 := hb); (try clear hA hc hf hz); clear hb; have hA := hA2; clear hA2; obtain ⟨hc, hf⟩ := bcell hA; have hz := hA.size; try simp only [World.size_alloc1] at hz))
  have hB := boxed3 hA
  have hS : BoxV w.heap.size w1 w1 (.int .i64 s) (.int .i64 a) (.int .i64 o) (.int .i64 st) (.int .i64 ha) := by
    refine ⟨?_, ?_, ?_, ?_, ?_, by omega, by omega, by omega, Below.refl _ _⟩
    all_goals (rw [hc _ _ (by simp only [World.size_alloc1]; omega)]; simp [go_sem])
  have r0 : NewC (w.heap.size + 1 + 1) w1 (.int .i64 0) (.int .i64 0) (.int .i64 0) := by
    refine newC_keep ⟨?_, ?_, ?_, ?_, ?_, ?_, ?_⟩ hA
    · simp [go_sem]
    · simp [go_sem]
    · simp [go_sem]
    · exact World.frozen?_alloc_at _ _ _ _ (by simp)
    · exact World.frozen?_alloc_at _ _ _ _ (by simp)
    · exact World.frozen?_alloc_at _ _ _ _ (by simp)
    · simp
  clear hc hf hA
  have HR0 := hid r0
  have hlt := r0.2.2.2.2.2.2
  clear r0 hz
  go_cut [6] (fun s6 wx => s6 = .int .i64 p ∧ BoxV w.heap.size w1 wx (.int .i64 s) (.int .i64 a) (.int .i64 o) (.int .i64 st) (.int .i64 ha))
  case first =>
    go_region_held3 (fun W => W.cell? ⟨w.heap.size, 0, none⟩ = some (.int .i64 s) ∧ W.cell? ⟨w.heap.size, 1, none⟩ = some (.int .i64 a) ∧ W.cell? ⟨w.heap.size, 2, none⟩ = some (.int .i64 o) ∧
        W.cell? ⟨w.heap.size + 1, 0, none⟩ = some (.int .i64 st) ∧ W.cell? ⟨w.heap.size + 1, 1, none⟩ = some (.int .i64 ha) ∧ w.heap.size < W.heap.size ∧ w.heap.size + 1 < W.heap.size ∧ w.heap.size + 1 + 1 < W.heap.size ∧ Below w1.heap.size w1 W)
      (first | assumption | exact boxV_below (by assumption) (by assumption) | exact boxV_below hS (below_drew1 _) | exact boxV_below (by assumption) (below1 _))
      (first | (go_at_call 88; refine (placeS_any _ _ _ _).mono ?_; rintro e w2 ⟨rfl, hb⟩))
    all_goals (go_wp2_with fail; go_meet)
    all_goals exact ⟨rfl, by assumption⟩
  case rest =>
    obtain ⟨rfl, hV⟩ := hcut
    have hB2 := btr hB (boxV_b hV)
    have hN := newC_keep HR0.out (boxV_b hV)
    obtain ⟨n0, n1, n2, n3, n4, n5, n6⟩ := hN
    have hN : NewC (w.heap.size + 1 + 1) wc (.int .i64 0) (.int .i64 0) (.int .i64 0) := ⟨n0, n1, n2, n3, n4, n5, n6⟩
    go_wp2_with fail
    obtain ⟨_, _, z2, z3, z4⟩ := newC_set hN (.int .i64 0) (.int .i64 0) (.int .i64 0)
    refine bodyPost_ret (v := .tuple #[.agg #[.int .i64 0, .int .i64 0, .int .i64 0], .bool false]) (by simp [results, Tryd.results58, go_sem, z2, z3, z4]) rfl ⟨rfl, ?_⟩
    exact set3_of hB2 (by omega) _ _ _

theorem adS_yes (s a o st ha : Int) (w : World) (hv : adB s a o st ha = true) :
    Calls Tryd.prog 58 #[.agg #[.int .i64 s, .int .i64 a, .int .i64 o], .agg #[.int .i64 st, .int .i64 ha]] w fun e w' => e = .returned (.tuple #[.agg #[.int .i64 (adP s o st % 7), .int .i64 (adA s a o st ha), .int .i64 (adP s o st / 7)], .bool true]) ∧ Below w.heap.size w w' := by
  unfold adB at hv
  simp only [Bool.and_eq_true, decide_eq_true_eq] at hv
  obtain ⟨⟨⟨v1, v2⟩, v3⟩, v4⟩ := hv
  exact adS_b s a o st ha (adP s o st) w v1 v2 rfl v3 true v4

theorem adS_no (s a o st ha : Int) (w : World) (hv : adB s a o st ha = false) :
    Calls Tryd.prog 58 #[.agg #[.int .i64 s, .int .i64 a, .int .i64 o], .agg #[.int .i64 st, .int .i64 ha]] w fun e w' => e = .returned (.tuple #[.agg #[.int .i64 0, .int .i64 0, .int .i64 0], .bool false]) ∧ Below w.heap.size w w' := by
  cases v1 : pvB s a o
  · exact adS_no1 s a o st ha w v1
  cases v2 : ivB st ha
  · exact adS_no2 s a o st ha w v1 v2
  by_cases v3 : 0 ≤ adP s o st
  · exact adS_b s a o st ha (adP s o st) w v1 v2 rfl v3 false (by simpa [adB, v1, v2, v3, adA] using hv)
  · exact adS_no3 s a o st ha (adP s o st) w v1 v2 rfl (by omega)
end Go.Proofs.YtcgcnkddgihkpaaDoor
