/- AddInterval in the model. -/
import Derived.Test.YtcmhfjpofkgjbaaDoorWalks2S
namespace Go.Proofs.YtcmhfjpofkgjbaaDoor
set_option linter.unusedSimpArgs false
set_option linter.unusedVariables false
set_option maxRecDepth 8000
open Go.RowKit

set_option maxHeartbeats 4000000 in
theorem adS_b (s a o st ha p : Int) (w : World) (v1 : pvB s a o = true) (v2 : ivB st ha = true) (hp : 7 * o + s + st = p) (hp0 : 0 ≤ p) (b : Bool) (v3 : pvB (p % 7) (keyZ s a o + ha - natZ p) (p / 7) = b) :
    Calls Tryd.prog 60 #[.agg #[.int .i64 s, .int .i64 a, .int .i64 o], .agg #[.int .i64 st, .int .i64 ha]] w fun e w' => e = .returned (.tuple #[.agg #[.int .i64 (if b then p % 7 else 0), .int .i64 (if b then keyZ s a o + ha - natZ p else 0), .int .i64 (if b then p / 7 else 0)], .bool b]) ∧ Below w.heap.size w w' := by
  have k1 := keyZ_bd v1
  have HV3 := hid v3
  clear v3
  have HP := hid hp
  obtain ⟨⟨h1, h2⟩, ⟨h3, h4⟩, ⟨h5, h6⟩⟩ := pvB_iff.1 v1
  obtain ⟨⟨g1, g2⟩, ⟨g3, g4⟩, _⟩ := ivB_iff.1 v2
  have nb := natZ_bd hp0
  have p1 : placeZ s a o = 7 * o + s := by simp [placeZ, v1]
  have d1 : IntKind.i64.wrap (7 * o + s + st) = p := by rw [hp]; exact IntWalk.i64_in _ (by omega)
  have d2 : IntKind.i64.wrap (keyZ s a o + ha) = keyZ s a o + ha := IntWalk.i64_in _ (by omega)
  have d3 : IntKind.i64.wrap (keyZ s a o + ha - natZ p) = keyZ s a o + ha - natZ p := IntWalk.i64_in _ (by omega)
  have p0 : ¬ p < 0 := by omega
  have pb : p ≤ 83 := by omega
  have t1 : p.tmod 7 = p % 7 := Int.tmod_eq_emod_of_nonneg hp0
  have t2 : p.tdiv 7 = p / 7 := Int.tdiv_eq_ediv_of_nonneg hp0
  have t3 : IntKind.i64.wrap (p % 7) = p % 7 := IntWalk.i64_in _ (by omega)
  have t4 : IntKind.i64.wrap (p / 7) = p / 7 := IntWalk.i64_in _ (by omega)
  clear hp
  go_enter Tryd.func60, Tryd.ntmps60
  go_wp2_with (first | (go_at_call 36; refine (pvS_any _ _ _ _).mono ?_; rintro e w1 ⟨rfl, hb⟩; (first | have hA2 := btr hA hb | have hA2 := hb); (try clear hA hc hf hz); clear hb; have hA := hA2; clear hA2; obtain ⟨hc, hf⟩ := bcell hA; have hz := hA.size; try simp only [World.size_alloc1] at hz) | (go_at_call 63; refine (ivS_any _ _ _).mono ?_; rintro e w1 ⟨rfl, hb⟩; (first | have hA2 := btr hA hb | have hA2 := hb); (try clear hA hc hf hz); clear hb; have hA := hA2; clear hA2; obtain ⟨hc, hf⟩ := bcell hA; have hz := hA.size; try simp only [World.size_alloc1] at hz))
  have hB := boxed3 hA
  have hS : BoxV w.heap.size w1 w1 (.int .i64 s) (.int .i64 a) (.int .i64 o) (.int .i64 st) (.int .i64 ha) := by
    refine ⟨?_, ?_, ?_, ?_, ?_, by omega, by omega, by omega, Below.refl _ _⟩
    all_goals (rw [hc _ _ (by simp only [World.size_alloc1]; omega)]; simp [go_sem])
  have r0 : NewC (w.heap.size + 1 + 1) w1 (.int .i64 0) (.int .i64 0) (.int .i64 0) := by
    refine newC_keep ⟨?_, ?_, ?_, ?_, ?_, ?_, ?_⟩ hA
    · simp [go_sem]
    · simp [go_sem]
    · simp [go_sem]
    · exact World.frozen?_alloc_at _ _ _ _ (by simp)
    · exact World.frozen?_alloc_at _ _ _ _ (by simp)
    · exact World.frozen?_alloc_at _ _ _ _ (by simp)
    · simp
  clear hc hf hA
  have HR0 := hid r0
  have hlt := r0.2.2.2.2.2.2
  clear r0 hz
  have hll : w1.heap.size ≤ w1.heap.size := Nat.le_refl _
  go_cut [6] (fun s6 wx => s6 = .int .i64 p ∧ BoxV w.heap.size w1 wx (.int .i64 s) (.int .i64 a) (.int .i64 o) (.int .i64 st) (.int .i64 ha))
  case first =>
    go_region_held3 (fun W => W.cell? ⟨w.heap.size, 0, none⟩ = some (.int .i64 s) ∧ W.cell? ⟨w.heap.size, 1, none⟩ = some (.int .i64 a) ∧ W.cell? ⟨w.heap.size, 2, none⟩ = some (.int .i64 o) ∧
        W.cell? ⟨w.heap.size + 1, 0, none⟩ = some (.int .i64 st) ∧ W.cell? ⟨w.heap.size + 1, 1, none⟩ = some (.int .i64 ha) ∧ w.heap.size < W.heap.size ∧ w.heap.size + 1 < W.heap.size ∧ w.heap.size + 1 + 1 < W.heap.size ∧ Below w1.heap.size w1 W)
      (first | assumption | exact boxV_below (by assumption) (by assumption) | exact boxV_below hS (below_drew1 _) | exact boxV_below (by assumption) (below1 _))
      (first | (go_at_call 64; refine (placeS_any _ _ _ _).mono ?_; rintro e w2 ⟨rfl, hb⟩))
    all_goals (go_wp2_with fail; go_meet)
    all_goals exact ⟨rfl, by assumption⟩
  case rest =>
    obtain ⟨rfl, hV⟩ := hcut
    have hss := (boxV_b hV).size
    go_wp2_with fail
    go_cut [7] (fun s7 wx => ∃ q : Nat, s7 = .pointer (some ⟨q, 0, none⟩) ∧ w.heap.size + 1 + 1 < q ∧ q < wx.heap.size ∧ wx.cell? ⟨q, 0, none⟩ = some (.int .i64 (p % 7)) ∧ wx.cell? ⟨q, 1, none⟩ = some (.int .i64 (keyZ s a o + ha - natZ p)) ∧ wx.cell? ⟨q, 2, none⟩ = some (.int .i64 (p / 7)) ∧ Below w1.heap.size w1 wx)
    case first =>
      go_region_held3 (fun W => W.cell? ⟨w.heap.size, 0, none⟩ = some (.int .i64 s) ∧ W.cell? ⟨w.heap.size, 1, none⟩ = some (.int .i64 a) ∧ W.cell? ⟨w.heap.size, 2, none⟩ = some (.int .i64 o) ∧
          W.cell? ⟨w.heap.size + 1, 0, none⟩ = some (.int .i64 st) ∧ W.cell? ⟨w.heap.size + 1, 1, none⟩ = some (.int .i64 ha) ∧ w.heap.size < W.heap.size ∧ w.heap.size + 1 < W.heap.size ∧ w.heap.size + 1 + 1 < W.heap.size ∧ Below w1.heap.size w1 W)
        (first | assumption | exact boxV_below (by assumption) (by assumption) | exact boxV_below hV (below_drew1 _) | exact boxV_below (by assumption) (below1 _) | exact boxV_re (by omega) (by assumption) | (refine boxV_set ?_ (boxV_set ?_ (boxV_set ?_ (by assumption) _) _) _ <;> omega) | trace_state)
        (first
          | (go_at_call 37; refine (keyS_any _ _ _ _).mono ?_; rintro e w2 ⟨rfl, hb⟩; (first | have hn := newC_new hb | have hn := newC_newD hb | replace hn := newC_keep hn hb | skip); have hss := hb.size; (try rw [World.size_drew] at hss); (try rw [World.size_alloc1] at hss))
          | (go_at_call 57; refine (natural_any _ _ (by omega) (by omega)).mono ?_; rintro e w2 ⟨rfl, hb⟩; (first | have hn := newC_new hb | have hn := newC_newD hb | replace hn := newC_keep hn hb | skip); have hss := hb.size; (try rw [World.size_drew] at hss); (try rw [World.size_alloc1] at hss)))
      all_goals (go_wp2_with fail; go_meet)
      all_goals first
        | exact ⟨_, rfl, by omega, by simp, by simp, by simp, by simp, boxV_b (by assumption)⟩
        | exact ⟨_, rfl, by omega, by rw [World.size_setCell, World.size_setCell, World.size_setCell]; exact hn.2.2.2.2.2.2, (newC_set hn _ _ _).2.2.1, (newC_set hn _ _ _).2.2.2.1, (newC_set hn _ _ _).2.2.2.2, boxV_b (by assumption)⟩
        | trace_state
    case rest =>
      obtain ⟨q, rfl, hq, hql, c0, c1, c2, hbx⟩ := hcut
      have r0 := newC_keep HR0.out hbx
      have hBc := btr hB hbx
      have v3 := HV3.out
      clear hbx
      obtain ⟨n0, n1, n2, n3, n4, n5, n6⟩ := r0
      have r0 : NewC (w.heap.size + 1 + 1) _ (.int .i64 0) (.int .i64 0) (.int .i64 0) := ⟨n0, n1, n2, n3, n4, n5, n6⟩
      cases b
      · go_wp2_with (go_at_call 36; refine (pvS_any _ _ _ _).mono ?_; rintro e w1 ⟨rfl, hb⟩; (first | have hA2 := btr hA hb | have hA2 := hb); (try clear hA hc hf hz); clear hb; have hA := hA2; clear hA2; obtain ⟨hc, hf⟩ := bcell hA; have hz := hA.size; try simp only [World.size_alloc1] at hz)
        have hN := newC_keep r0 hA
        obtain ⟨_, _, z2, z3, z4⟩ := newC_set hN (.int .i64 0) (.int .i64 0) (.int .i64 0)
        refine bodyPost_ret (v := .tuple #[.agg #[.int .i64 0, .int .i64 0, .int .i64 0], .bool false]) (by simp [results, Tryd.results60, go_sem, z2, z3, z4]) rfl ⟨rfl, ?_⟩
        exact set3_of (btr hBc hA) (by omega) _ _ _
      · go_wp2_with (go_at_call 36; refine (pvS_any _ _ _ _).mono ?_; rintro e w1 ⟨rfl, hb⟩; (first | have hA2 := btr hA hb | have hA2 := hb); (try clear hA hc hf hz); clear hb; have hA := hA2; clear hA2; obtain ⟨hc, hf⟩ := bcell hA; have hz := hA.size; try simp only [World.size_alloc1] at hz)
        have hN := newC_keep r0 hA
        obtain ⟨_, _, z2, z3, z4⟩ := newC_set hN (.int .i64 (p % 7)) (.int .i64 (keyZ s a o + ha - natZ p)) (.int .i64 (p / 7))
        refine bodyPost_ret (v := .tuple #[.agg #[.int .i64 (p % 7), .int .i64 (keyZ s a o + ha - natZ p), .int .i64 (p / 7)], .bool true]) (by simp [results, Tryd.results60, go_sem, z2, z3, z4]) rfl ⟨rfl, ?_⟩
        exact set3_of (btr hBc hA) (by omega) _ _ _
set_option maxHeartbeats 2000000 in
theorem adS_no1 (s a o st ha : Int) (w : World) (v1 : pvB s a o = false) :
    Calls Tryd.prog 60 #[.agg #[.int .i64 s, .int .i64 a, .int .i64 o], .agg #[.int .i64 st, .int .i64 ha]] w fun e w' => e = .returned (.tuple #[.agg #[.int .i64 0, .int .i64 0, .int .i64 0], .bool false]) ∧ Below w.heap.size w w' := by
  go_enter Tryd.func60, Tryd.ntmps60
  go_wp2_with (first | (go_at_call 36; refine (pvS_any _ _ _ _).mono ?_; rintro e w1 ⟨rfl, hb⟩; (first | have hA2 := btr hA hb | have hA2 := hb); (try clear hA hc hf hz); clear hb; have hA := hA2; clear hA2; obtain ⟨hc, hf⟩ := bcell hA; have hz := hA.size; try simp only [World.size_alloc1] at hz) | (go_at_call 63; refine (ivS_any _ _ _).mono ?_; rintro e w1 ⟨rfl, hb⟩; (first | have hA2 := btr hA hb | have hA2 := hb); (try clear hA hc hf hz); clear hb; have hA := hA2; clear hA2; obtain ⟨hc, hf⟩ := bcell hA; have hz := hA.size; try simp only [World.size_alloc1] at hz))
  refine bodyPost_ret (v := .tuple #[.agg #[.int .i64 0, .int .i64 0, .int .i64 0], .bool false]) (by simp [results, Tryd.results60, go_sem, hc]) rfl ⟨rfl, ?_⟩
  exact set3_of (boxed3 hA) (by omega) _ _ _

set_option maxHeartbeats 2000000 in
theorem adS_no2 (s a o st ha : Int) (w : World) (v1 : pvB s a o = true) (v2 : ivB st ha = false) :
    Calls Tryd.prog 60 #[.agg #[.int .i64 s, .int .i64 a, .int .i64 o], .agg #[.int .i64 st, .int .i64 ha]] w fun e w' => e = .returned (.tuple #[.agg #[.int .i64 0, .int .i64 0, .int .i64 0], .bool false]) ∧ Below w.heap.size w w' := by
  go_enter Tryd.func60, Tryd.ntmps60
  go_wp2_with (first | (go_at_call 36; refine (pvS_any _ _ _ _).mono ?_; rintro e w1 ⟨rfl, hb⟩; (first | have hA2 := btr hA hb | have hA2 := hb); (try clear hA hc hf hz); clear hb; have hA := hA2; clear hA2; obtain ⟨hc, hf⟩ := bcell hA; have hz := hA.size; try simp only [World.size_alloc1] at hz) | (go_at_call 63; refine (ivS_any _ _ _).mono ?_; rintro e w1 ⟨rfl, hb⟩; (first | have hA2 := btr hA hb | have hA2 := hb); (try clear hA hc hf hz); clear hb; have hA := hA2; clear hA2; obtain ⟨hc, hf⟩ := bcell hA; have hz := hA.size; try simp only [World.size_alloc1] at hz))
  refine bodyPost_ret (v := .tuple #[.agg #[.int .i64 0, .int .i64 0, .int .i64 0], .bool false]) (by simp [results, Tryd.results60, go_sem, hc]) rfl ⟨rfl, ?_⟩
  exact set3_of (boxed3 hA) (by omega) _ _ _

set_option maxHeartbeats 4000000 in
theorem adS_no3 (s a o st ha p : Int) (w : World) (v1 : pvB s a o = true) (v2 : ivB st ha = true) (hp : 7 * o + s + st = p) (p0 : p < 0) :
    Calls Tryd.prog 60 #[.agg #[.int .i64 s, .int .i64 a, .int .i64 o], .agg #[.int .i64 st, .int .i64 ha]] w fun e w' => e = .returned (.tuple #[.agg #[.int .i64 0, .int .i64 0, .int .i64 0], .bool false]) ∧ Below w.heap.size w w' := by
  have HP := hid hp
  obtain ⟨⟨h1, h2⟩, ⟨h3, h4⟩, ⟨h5, h6⟩⟩ := pvB_iff.1 v1
  obtain ⟨⟨g1, g2⟩, ⟨g3, g4⟩, _⟩ := ivB_iff.1 v2
  have p1 : placeZ s a o = 7 * o + s := by simp [placeZ, v1]
  have d1 : IntKind.i64.wrap (7 * o + s + st) = p := by rw [hp]; exact IntWalk.i64_in _ (by omega)
  clear hp
  go_enter Tryd.func60, Tryd.ntmps60
  go_wp2_with (first | (go_at_call 36; refine (pvS_any _ _ _ _).mono ?_; rintro e w1 ⟨rfl, hb⟩; (first | have hA2 := btr hA hb | have hA2 := hb); (try clear hA hc hf hz); clear hb; have hA := hA2; clear hA2; obtain ⟨hc, hf⟩ := bcell hA; have hz := hA.size; try simp only [World.size_alloc1] at hz) | (go_at_call 63; refine (ivS_any _ _ _).mono ?_; rintro e w1 ⟨rfl, hb⟩; (first | have hA2 := btr hA hb | have hA2 := hb); (try clear hA hc hf hz); clear hb; have hA := hA2; clear hA2; obtain ⟨hc, hf⟩ := bcell hA; have hz := hA.size; try simp only [World.size_alloc1] at hz))
  have hB := boxed3 hA
  have hS : BoxV w.heap.size w1 w1 (.int .i64 s) (.int .i64 a) (.int .i64 o) (.int .i64 st) (.int .i64 ha) := by
    refine ⟨?_, ?_, ?_, ?_, ?_, by omega, by omega, by omega, Below.refl _ _⟩
    all_goals (rw [hc _ _ (by simp only [World.size_alloc1]; omega)]; simp [go_sem])
  have r0 : NewC (w.heap.size + 1 + 1) w1 (.int .i64 0) (.int .i64 0) (.int .i64 0) := by
    refine newC_keep ⟨?_, ?_, ?_, ?_, ?_, ?_, ?_⟩ hA
    · simp [go_sem]
    · simp [go_sem]
    · simp [go_sem]
    · exact World.frozen?_alloc_at _ _ _ _ (by simp)
    · exact World.frozen?_alloc_at _ _ _ _ (by simp)
    · exact World.frozen?_alloc_at _ _ _ _ (by simp)
    · simp
  clear hc hf hA
  have HR0 := hid r0
  have hlt := r0.2.2.2.2.2.2
  clear r0 hz
  go_cut [6] (fun s6 wx => s6 = .int .i64 p ∧ BoxV w.heap.size w1 wx (.int .i64 s) (.int .i64 a) (.int .i64 o) (.int .i64 st) (.int .i64 ha))
  case first =>
    go_region_held3 (fun W => W.cell? ⟨w.heap.size, 0, none⟩ = some (.int .i64 s) ∧ W.cell? ⟨w.heap.size, 1, none⟩ = some (.int .i64 a) ∧ W.cell? ⟨w.heap.size, 2, none⟩ = some (.int .i64 o) ∧
        W.cell? ⟨w.heap.size + 1, 0, none⟩ = some (.int .i64 st) ∧ W.cell? ⟨w.heap.size + 1, 1, none⟩ = some (.int .i64 ha) ∧ w.heap.size < W.heap.size ∧ w.heap.size + 1 < W.heap.size ∧ w.heap.size + 1 + 1 < W.heap.size ∧ Below w1.heap.size w1 W)
      (first | assumption | exact boxV_below (by assumption) (by assumption) | exact boxV_below hS (below_drew1 _) | exact boxV_below (by assumption) (below1 _))
      (first | (go_at_call 64; refine (placeS_any _ _ _ _).mono ?_; rintro e w2 ⟨rfl, hb⟩))
    all_goals (go_wp2_with fail; go_meet)
    all_goals exact ⟨rfl, by assumption⟩
  case rest =>
    obtain ⟨rfl, hV⟩ := hcut
    have hB2 := btr hB (boxV_b hV)
    have hN := newC_keep HR0.out (boxV_b hV)
    obtain ⟨n0, n1, n2, n3, n4, n5, n6⟩ := hN
    have hN : NewC (w.heap.size + 1 + 1) wc (.int .i64 0) (.int .i64 0) (.int .i64 0) := ⟨n0, n1, n2, n3, n4, n5, n6⟩
    go_wp2_with fail
    obtain ⟨_, _, z2, z3, z4⟩ := newC_set hN (.int .i64 0) (.int .i64 0) (.int .i64 0)
    refine bodyPost_ret (v := .tuple #[.agg #[.int .i64 0, .int .i64 0, .int .i64 0], .bool false]) (by simp [results, Tryd.results60, go_sem, z2, z3, z4]) rfl ⟨rfl, ?_⟩
    exact set3_of hB2 (by omega) _ _ _

theorem adS_yes (s a o st ha : Int) (w : World) (hv : adB s a o st ha = true) :
    Calls Tryd.prog 60 #[.agg #[.int .i64 s, .int .i64 a, .int .i64 o], .agg #[.int .i64 st, .int .i64 ha]] w fun e w' => e = .returned (.tuple #[.agg #[.int .i64 (adP s o st % 7), .int .i64 (adA s a o st ha), .int .i64 (adP s o st / 7)], .bool true]) ∧ Below w.heap.size w w' := by
  unfold adB at hv
  simp only [Bool.and_eq_true, decide_eq_true_eq] at hv
  obtain ⟨⟨⟨v1, v2⟩, v3⟩, v4⟩ := hv
  exact adS_b s a o st ha (adP s o st) w v1 v2 rfl v3 true v4

theorem adS_no (s a o st ha : Int) (w : World) (hv : adB s a o st ha = false) :
    Calls Tryd.prog 60 #[.agg #[.int .i64 s, .int .i64 a, .int .i64 o], .agg #[.int .i64 st, .int .i64 ha]] w fun e w' => e = .returned (.tuple #[.agg #[.int .i64 0, .int .i64 0, .int .i64 0], .bool false]) ∧ Below w.heap.size w w' := by
  cases v1 : pvB s a o
  · exact adS_no1 s a o st ha w v1
  cases v2 : ivB st ha
  · exact adS_no2 s a o st ha w v1 v2
  by_cases v3 : 0 ≤ adP s o st
  · exact adS_b s a o st ha (adP s o st) w v1 v2 rfl v3 false (by simpa [adB, v1, v2, v3, adA] using hv)
  · exact adS_no3 s a o st ha (adP s o st) w v1 v2 rfl (by omega)
end Go.Proofs.YtcmhfjpofkgjbaaDoor
