/- IntervalOf and AddInterval in the model. -/
import Derived.Test.YtjfkbhfdcdjeaaaDoorWalks2S
import Derived.Deep.CutRange
import Derived.Deep.DeepCutAuto
namespace Go.Proofs.YtjfkbhfdcdjeaaaDoor
set_option linter.unusedSimpArgs false
set_option linter.unusedVariables false
open Go.RowKit

theorem keyZ_bd {s a o : Int} (hv : pvB s a o = true) : -2 ≤ keyZ s a o ∧ keyZ s a o ≤ 109 := by
  obtain ⟨⟨h1, h2⟩, ⟨h3, h4⟩, ⟨h5, h6⟩⟩ := pvB_iff.1 hv
  have := halZ_bd s
  rw [keyZ, if_pos hv, natZ_os h1 h2]
  omega

set_option maxHeartbeats 4000000 in
theorem ofS_b (s a o s' a' o' : Int) (w : World) (v1 : pvB s a o = true) (v2 : pvB s' a' o' = true) (b : Bool) (v3 : ivB (dpZ s o s' o') (keyZ s' a' o' - keyZ s a o) = b) :
    Calls Tryd.prog 18 #[.agg #[.int .i64 s, .int .i64 a, .int .i64 o], .agg #[.int .i64 s', .int .i64 a', .int .i64 o']] w fun e w' => e = .returned (.tuple #[.agg #[.int .i64 (if b then dpZ s o s' o' else 0), .int .i64 (if b then keyZ s' a' o' - keyZ s a o else 0)], .bool b]) ∧ Below w.heap.size w w' := by
  have k1 := keyZ_bd v1
  have k2 := keyZ_bd v2
  obtain ⟨⟨h1, h2⟩, ⟨h3, h4⟩, ⟨h5, h6⟩⟩ := pvB_iff.1 v1
  obtain ⟨⟨g1, g2⟩, ⟨g3, g4⟩, ⟨g5, g6⟩⟩ := pvB_iff.1 v2
  have p1 : placeZ s a o = 7 * o + s := by simp [placeZ, v1]
  have p2 : placeZ s' a' o' = 7 * o' + s' := by simp [placeZ, v2]
  have d1 : IntKind.i64.wrap (7 * o' + s' - (7 * o + s)) = dpZ s o s' o' := by unfold dpZ; exact IntWalk.i64_in _ (by omega)
  have d2 : IntKind.i64.wrap (keyZ s' a' o' - keyZ s a o) = keyZ s' a' o' - keyZ s a o := IntWalk.i64_in _ (by omega)
  go_enter Tryd.func18, Tryd.ntmps18
  go_wp2_with (go_at_call 42; refine (pvS_any _ _ _ _).mono ?_; rintro e w1 ⟨rfl, hb⟩; (first | have hA2 := btr hA hb | have hA2 := hb); (try clear hA hc hf hz); clear hb; have hA := hA2; clear hA2; obtain ⟨hc, hf⟩ := bcell hA; have hz := hA.size; try simp only [World.size_alloc1] at hz)
  have hB := boxed3 hA
  have hS : BoxU w.heap.size w1 w1 (.int .i64 s) (.int .i64 a) (.int .i64 o) (.int .i64 s') (.int .i64 a') (.int .i64 o') := by
    refine ⟨?_, ?_, ?_, ?_, ?_, ?_, by omega, by omega, by omega, Below.refl _ _⟩
    all_goals (rw [hc _ _ (by simp only [World.size_alloc1]; omega)]; simp [go_sem])
  have r0 : w1.cell? ⟨w.heap.size + 1 + 1, 0, none⟩ = some (.int .i64 0) ∧ w1.cell? ⟨w.heap.size + 1 + 1, 1, none⟩ = some (.int .i64 0) ∧ w1.frozen? ⟨w.heap.size + 1 + 1, 0, none⟩ = false ∧ w1.frozen? ⟨w.heap.size + 1 + 1, 1, none⟩ = false ∧ w.heap.size + 1 + 1 < w1.heap.size := by
    refine ⟨?_, ?_, ?_, ?_, by omega⟩
    · rw [hc _ _ (by simp only [World.size_alloc1]; omega)]; simp [go_sem]
    · rw [hc _ _ (by simp only [World.size_alloc1]; omega)]; simp [go_sem]
    · rw [hf _ _ (by simp only [World.size_alloc1]; omega)]; exact World.frozen?_alloc_at _ _ _ _ (by simp)
    · rw [hf _ _ (by simp only [World.size_alloc1]; omega)]; exact World.frozen?_alloc_at _ _ _ _ (by simp)
  clear hc hf hA
  have HR0 := hid r0
  have hlt := r0.2.2.2.2
  have hll : w1.heap.size ≤ w1.heap.size := Nat.le_refl _
  clear r0 hz
  go_cut [6] (fun s6 wx => ∃ q : Nat, s6 = .pointer (some ⟨q, 0, none⟩) ∧ w.heap.size + 1 + 1 < q ∧ q < wx.heap.size ∧ wx.cell? ⟨q, 0, none⟩ = some (.int .i64 (dpZ s o s' o')) ∧ wx.cell? ⟨q, 1, none⟩ = some (.int .i64 (keyZ s' a' o' - keyZ s a o)) ∧ Below w1.heap.size w1 wx)
  case first =>
    go_region_held3 (fun W => W.cell? ⟨w.heap.size, 0, none⟩ = some (.int .i64 s) ∧ W.cell? ⟨w.heap.size, 1, none⟩ = some (.int .i64 a) ∧ W.cell? ⟨w.heap.size, 2, none⟩ = some (.int .i64 o) ∧
        W.cell? ⟨w.heap.size + 1, 0, none⟩ = some (.int .i64 s') ∧ W.cell? ⟨w.heap.size + 1, 1, none⟩ = some (.int .i64 a') ∧ W.cell? ⟨w.heap.size + 1, 2, none⟩ = some (.int .i64 o') ∧ w.heap.size < W.heap.size ∧ w.heap.size + 1 < W.heap.size ∧ w.heap.size + 1 + 1 < W.heap.size ∧ Below w1.heap.size w1 W)
      (first | assumption | exact boxU_below (by assumption) (by assumption) | exact boxU_below hS (below_drew1 _) | exact boxU_below (by assumption) (below1 _) | exact boxU_re (by omega) (by assumption) | (refine boxU_set ?_ (boxU_set ?_ (by assumption) _) _ <;> omega) | trace_state)
      (first | (go_at_call 43; refine (placeS_any _ _ _ _).mono ?_; rintro e w2 ⟨rfl, hb⟩; (first | have hn := newB_new hb | have hn := newB_newD hb | replace hn := newB_keep hn hb | skip); have hss := hb.size; (try rw [World.size_drew] at hss); (try rw [World.size_alloc1] at hss)) | (go_at_call 44; refine (keyS_any _ _ _ _).mono ?_; rintro e w2 ⟨rfl, hb⟩; (first | have hn := newB_new hb | have hn := newB_newD hb | replace hn := newB_keep hn hb | skip); have hss := hb.size; (try rw [World.size_drew] at hss); (try rw [World.size_alloc1] at hss)))
    all_goals (go_wp2_with fail; go_meet)
    all_goals first
      | exact ⟨_, rfl, by omega, by simp, by simp, by simp, boxU_b (by assumption)⟩
      | exact ⟨_, rfl, by omega, by rw [World.size_setCell, World.size_setCell]; exact hn.2.2.2.2, (newB_set hn _ _).1, (newB_set hn _ _).2, boxU_b (by assumption)⟩
  case rest =>
    obtain ⟨q, rfl, hq, hql, c0, c1, hbx⟩ := hcut
    obtain ⟨hcx, hfx⟩ := bcell hbx
    obtain ⟨n0, n1, n2, n3, n4⟩ := HR0.out
    have n5 := Nat.lt_of_lt_of_le n4 hbx.size
    rw [← hcx _ _ n4] at n0 n1
    rw [← hfx _ _ n4] at n2 n3
    have hBc := btr hB hbx
    clear hcx hfx hbx
    cases b
    · go_wp2_with (go_at_call 15; refine (ivS_any _ _ _).mono ?_; rintro e w1 ⟨rfl, hb⟩; (first | have hA2 := btr hA hb | have hA2 := hb); (try clear hA hc hf hz); clear hb; have hA := hA2; clear hA2; obtain ⟨hc, hf⟩ := bcell hA; have hz := hA.size; try simp only [World.size_alloc1] at hz)
      have hN := newB_keep ⟨n0, n1, n2, n3, n5⟩ hA
      have z1 := World.cell?_setCell_same (v := .int .i64 0) _ _ hN.1
      have z2 := (newB_set hN (.int .i64 0) (.int .i64 0)).2
      refine bodyPost_ret (v := .tuple #[.agg #[.int .i64 0, .int .i64 0], .bool false]) (by simp [results, Tryd.results18, go_sem, z1, z2]) rfl ⟨rfl, ?_⟩
      exact set2_of (btr hBc hA) (by omega) _ _
    · go_wp2_with (go_at_call 15; refine (ivS_any _ _ _).mono ?_; rintro e w1 ⟨rfl, hb⟩; (first | have hA2 := btr hA hb | have hA2 := hb); (try clear hA hc hf hz); clear hb; have hA := hA2; clear hA2; obtain ⟨hc, hf⟩ := bcell hA; have hz := hA.size; try simp only [World.size_alloc1] at hz)
      have hN := newB_keep ⟨n0, n1, n2, n3, n5⟩ hA
      have z1 := World.cell?_setCell_same (v := .int .i64 (dpZ s o s' o')) _ _ hN.1
      have z2 := (newB_set hN (.int .i64 (dpZ s o s' o')) (.int .i64 (keyZ s' a' o' - keyZ s a o))).2
      refine bodyPost_ret (v := .tuple #[.agg #[.int .i64 (dpZ s o s' o'), .int .i64 (keyZ s' a' o' - keyZ s a o)], .bool true]) (by simp [results, Tryd.results18, go_sem, z1, z2]) rfl ⟨rfl, ?_⟩
      exact set2_of (btr hBc hA) (by omega) _ _

set_option maxHeartbeats 2000000 in
theorem ofS_no1 (s a o s' a' o' : Int) (w : World) (v1 : pvB s a o = false) :
    Calls Tryd.prog 18 #[.agg #[.int .i64 s, .int .i64 a, .int .i64 o], .agg #[.int .i64 s', .int .i64 a', .int .i64 o']] w fun e w' => e = .returned (.tuple #[.agg #[.int .i64 0, .int .i64 0], .bool false]) ∧ Below w.heap.size w w' := by
  go_enter Tryd.func18, Tryd.ntmps18
  go_wp2_with (go_at_call 42; refine (pvS_any _ _ _ _).mono ?_; rintro e w1 ⟨rfl, hb⟩; (first | have hA2 := btr hA hb | have hA2 := hb); (try clear hA hc hf hz); clear hb; have hA := hA2; clear hA2; obtain ⟨hc, hf⟩ := bcell hA; have hz := hA.size; try simp only [World.size_alloc1] at hz)
  refine bodyPost_ret (v := .tuple #[.agg #[.int .i64 0, .int .i64 0], .bool false]) (by simp [results, Tryd.results18, go_sem, hc]) rfl ⟨rfl, ?_⟩
  exact set2_of (boxed3 hA) (by omega) _ _

set_option maxHeartbeats 2000000 in
theorem ofS_no2 (s a o s' a' o' : Int) (w : World) (v1 : pvB s a o = true) (v2 : pvB s' a' o' = false) :
    Calls Tryd.prog 18 #[.agg #[.int .i64 s, .int .i64 a, .int .i64 o], .agg #[.int .i64 s', .int .i64 a', .int .i64 o']] w fun e w' => e = .returned (.tuple #[.agg #[.int .i64 0, .int .i64 0], .bool false]) ∧ Below w.heap.size w w' := by
  go_enter Tryd.func18, Tryd.ntmps18
  go_wp2_with (go_at_call 42; refine (pvS_any _ _ _ _).mono ?_; rintro e w1 ⟨rfl, hb⟩; (first | have hA2 := btr hA hb | have hA2 := hb); (try clear hA hc hf hz); clear hb; have hA := hA2; clear hA2; obtain ⟨hc, hf⟩ := bcell hA; have hz := hA.size; try simp only [World.size_alloc1] at hz)
  refine bodyPost_ret (v := .tuple #[.agg #[.int .i64 0, .int .i64 0], .bool false]) (by simp [results, Tryd.results18, go_sem, hc]) rfl ⟨rfl, ?_⟩
  exact set2_of (boxed3 hA) (by omega) _ _

theorem ofS_yes (s a o s' a' o' : Int) (w : World) (hv : ofB s a o s' a' o' = true) :
    Calls Tryd.prog 18 #[.agg #[.int .i64 s, .int .i64 a, .int .i64 o], .agg #[.int .i64 s', .int .i64 a', .int .i64 o']] w fun e w' => e = .returned (.tuple #[.agg #[.int .i64 (dpZ s o s' o'), .int .i64 (keyZ s' a' o' - keyZ s a o)], .bool true]) ∧ Below w.heap.size w w' := by
  unfold ofB at hv
  simp only [Bool.and_eq_true] at hv
  exact ofS_b s a o s' a' o' w hv.1.1 hv.1.2 true hv.2

theorem ofS_no (s a o s' a' o' : Int) (w : World) (hv : ofB s a o s' a' o' = false) :
    Calls Tryd.prog 18 #[.agg #[.int .i64 s, .int .i64 a, .int .i64 o], .agg #[.int .i64 s', .int .i64 a', .int .i64 o']] w fun e w' => e = .returned (.tuple #[.agg #[.int .i64 0, .int .i64 0], .bool false]) ∧ Below w.heap.size w w' := by
  cases v1 : pvB s a o
  · exact ofS_no1 s a o s' a' o' w v1
  cases v2 : pvB s' a' o'
  · exact ofS_no2 s a o s' a' o' w v1 v2
  exact ofS_b s a o s' a' o' w v1 v2 false (by simpa [ofB, v1, v2] using hv)
end Go.Proofs.YtjfkbhfdcdjeaaaDoor
