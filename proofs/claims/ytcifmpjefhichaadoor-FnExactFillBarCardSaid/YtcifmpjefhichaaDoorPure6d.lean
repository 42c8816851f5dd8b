/- Plain facts for chapter 6's promises. -/
import Derived.Test.YtcifmpjefhichaaDoorPure6c
namespace Go.Proofs.YtcifmpjefhichaaDoor
set_option linter.unusedSimpArgs false
set_option linter.unusedVariables false

/-- the bar, the beat and the ticks together are the tick. -/
theorem be_all {b u t : Int} (h : meB b u = true) (h0 : 0 ≤ t) : 0 ≤ t / baZ b u ∧ t / baZ b u * baZ b u ≤ t ∧ 0 ≤ t % baZ b u / beZ u ∧ t % baZ b u / beZ u < b ∧ 0 ≤ t % beZ u ∧ t % beZ u < beZ u ∧
    0 ≤ t % baZ b u / beZ u * beZ u ∧ t / baZ b u * baZ b u + t % baZ b u / beZ u * beZ u ≤ t ∧ t / baZ b u * baZ b u + t % baZ b u / beZ u * beZ u + t % beZ u = t := by
  have hb := ba_bd h
  have hc := be_bd h
  have hd := (me_beat h).2.2
  have e := ba_be h
  have m0 := Int.emod_nonneg t (show baZ b u ≠ 0 by omega)
  have m1 := Int.emod_lt_of_pos t (show 0 < baZ b u by omega)
  have m2 := Int.emod_nonneg t (show beZ u ≠ 0 by omega)
  have m3 := Int.emod_lt_of_pos t (show 0 < beZ u by omega)
  have a1 := Int.mul_ediv_add_emod t (baZ b u)
  have a2 := Int.mul_ediv_add_emod (t % baZ b u) (beZ u)
  have a3 := Int.emod_emod_of_dvd t hd
  rw [a3] at a2
  rw [Int.mul_comm] at a1 a2
  have d0 := Int.ediv_nonneg h0 (show 0 ≤ baZ b u by omega)
  have d1 := Int.ediv_nonneg m0 (show 0 ≤ beZ u by omega)
  have d2 : t % baZ b u / beZ u < b := Int.ediv_lt_of_lt_mul (by omega) (by rw [← e]; exact m1)
  have d3 := Int.mul_nonneg d1 (show 0 ≤ beZ u by omega)
  refine ⟨d0, by omega, d1, d2, m2, m3, d3, by omega, by omega⟩

theorem inBars_at {bar : Int} : ∀ {l : List Nt} {at' : Int}, inBars bar at' l → ∀ (k : Nat) (x : Nt), l[k]? = some x → (at' + sumT (l.take k)) / bar = (at' + sumT (l.take k) + x.t - 1) / bar
  | [], _, _, _, _, h => by simp at h
  | z :: l, at', h, 0, x, hx => by
    simp at hx
    subst hx
    simpa [sumT] using h.1
  | z :: l, at', h, k + 1, x, hx => by
    have := inBars_at h.2 k x (by simpa using hx)
    simp only [List.take_succ_cons, sumT]
    rw [← Int.add_assoc]
    exact this

theorem tieB_snoc {z : Nt} (hz : nvB z = true) (hy : z.y = false) : ∀ {v : List Nt}, tieB v = true → tieB (v ++ [z]) = true
  | [], _ => tieB_one.2 ⟨hz, hy⟩
  | x :: l, h => by
    obtain ⟨h1, h2, h3⟩ := tieB_cons2.1 h
    rw [List.cons_append]
    refine tieB_cons2.2 ⟨h1, fun hx => ?_, tieB_snoc hz hy h3⟩
    obtain ⟨z', m, rfl, h4, h5⟩ := h2 hx
    exact ⟨z', m ++ [z], rfl, h4, h5⟩
/-- what is filled is full, and stays so. -/
theorem fi_ok {v : List Nt} {b u : Int} (h : fiB v b u = true) : voB (fiL v b u) = true ∧ vtZ (fiL v b u) = bcN v b u * baZ b u ∧ fiB (fiL v b u) b u = true ∧ fiL (fiL v b u) b u = fiL v b u ∧ v.length ≤ (fiL v b u).length ∧ (fiL v b u).length ≤ v.length + 1 := by
  have hh := h
  unfold fiB at hh
  rw [Bool.and_eq_true, Bool.and_eq_true] at hh
  obtain ⟨⟨h1, h2⟩, h3⟩ := hh
  have hb := ba_bd h2
  have hl := lf_bd h1 h2
  by_cases h0 : lfN v b u = 0
  · have e : fiL v b u = v := by unfold fiL; rw [h, if_pos rfl, if_pos h0]
    rw [e]
    refine ⟨h1, ?_, h, e, Nat.le_refl _, by omega⟩
    unfold vtZ
    rw [h1, if_pos rfl]
    unfold lfN at h0
    omega
  · have e : fiL v b u = v ++ [⟨true, 0, 0, 0, lfN v b u, false⟩] := by unfold fiL; rw [h, if_pos rfl, if_neg h0]
    have h5 : lfN v b u ≤ 768 ∧ v.length ≠ 60 := by simpa [h0] using h3
    obtain ⟨t1, t2⟩ := voB_iff.1 h1
    have hn : nvB (⟨true, 0, 0, 0, lfN v b u, false⟩ : Nt) = true := nvB_iff.2 ⟨fun _ => ⟨rfl, rfl, rfl, rfl⟩, by simp only; omega, (show pvB 0 0 0 = true by decide)⟩
    have hv : voB (v ++ [⟨true, 0, 0, 0, lfN v b u, false⟩]) = true := voB_iff.2 ⟨tieB_snoc hn rfl t1, by simp; omega⟩
    have hs : sumT (v ++ [(⟨true, 0, 0, 0, lfN v b u, false⟩ : Nt)]) = bcN v b u * baZ b u := by
      rw [sumT_append]; simp only [sumT, lfN]; omega
    have hc : bcN (v ++ [⟨true, 0, 0, 0, lfN v b u, false⟩]) b u = bcN v b u := by
      unfold bcN at hs ⊢
      rw [hs]
      rw [show (sumT v + baZ b u - 1) / baZ b u * baZ b u + baZ b u - 1 = (baZ b u - 1) + baZ b u * ((sumT v + baZ b u - 1) / baZ b u) by rw [Int.mul_comm]; omega]
      rw [Int.add_mul_ediv_left _ _ (by omega), Int.ediv_eq_zero_of_lt (by omega) (by omega), Int.zero_add]
    have hf : lfN (v ++ [⟨true, 0, 0, 0, lfN v b u, false⟩]) b u = 0 := by
      have : lfN (v ++ [⟨true, 0, 0, 0, lfN v b u, false⟩]) b u = bcN (v ++ [⟨true, 0, 0, 0, lfN v b u, false⟩]) b u * baZ b u - sumT (v ++ [⟨true, 0, 0, 0, lfN v b u, false⟩]) := rfl
      rw [this, hc, hs]; omega
    have hfb : fiB (v ++ [⟨true, 0, 0, 0, lfN v b u, false⟩]) b u = true := by unfold fiB; rw [hv, h2, hf]; rfl
    rw [e]
    refine ⟨hv, ?_, hfb, ?_, by simp, by simp⟩
    · unfold vtZ; rw [hv, if_pos rfl, hs]
    · unfold fiL; rw [hfb, if_pos rfl, if_pos hf]
end Go.Proofs.YtcifmpjefhichaaDoor
