/- Plain facts for chapter 6: what its functions answer. -/
import Derived.Test.YtcifmpjefhichaaDoorPure6b
namespace Go.Proofs.YtcifmpjefhichaaDoor
set_option linter.unusedSimpArgs false
set_option linter.unusedVariables false

/-- the voice can be divided at the bars of the meter. -/
def spB (v : List Nt) (b u : Int) : Bool := voB v && meB b u && decide ((spL (baZ b u) v).length ≤ 60)
def ssL (v : List Nt) (b u : Int) : List Nt := if spB v b u then spL (baZ b u) v else []
/-- how many bars a voice fills. -/
def bcN (v : List Nt) (b u : Int) : Int := (sumT v + baZ b u - 1) / baZ b u
def bcZ (v : List Nt) (b u : Int) : Int := if voB v && meB b u then bcN v b u else -1
/-- what is left of the last bar. -/
def lfN (v : List Nt) (b u : Int) : Int := bcN v b u * baZ b u - sumT v
def fiB (v : List Nt) (b u : Int) : Bool := voB v && meB b u && (lfN v b u == 0 || (decide (lfN v b u ≤ 768) && decide (v.length ≠ 60)))
def fiL (v : List Nt) (b u : Int) : List Nt := if fiB v b u then (if lfN v b u = 0 then v else v ++ [⟨true, 0, 0, 0, lfN v b u, false⟩]) else []

theorem spB_iff {v : List Nt} {b u : Int} : spB v b u = true ↔ voB v = true ∧ meB b u = true ∧ (spL (baZ b u) v).length ≤ 60 := by simp [spB, and_assoc]
theorem vo_pos {v : List Nt} (h : voB v = true) : ∀ x ∈ v, 0 ≤ x.t := fun x hx => by
  obtain ⟨i, hi⟩ := List.getElem?_of_mem hx
  have := nv_pos (tieB_at (voB_iff.1 h).1 hi)
  omega
theorem sum_bd {v : List Nt} (h : voB v = true) : (v.length : Int) ≤ sumT v ∧ sumT v ≤ 46080 := by
  obtain ⟨h1, h2⟩ := voB_iff.1 h
  have := sumT_pos h1
  omega
theorem sp_vo {v : List Nt} {b u : Int} (h : spB v b u = true) : voB (spL (baZ b u) v) = true := by
  obtain ⟨h1, h2, h3⟩ := spB_iff.1 h
  have hb := ba_bd h2
  exact voB_iff.2 ⟨sp_tie (by omega) v 0 (voB_iff.1 h1).1, h3⟩
theorem vt_sp {v : List Nt} {b u : Int} (h : spB v b u = true) : vtZ (spL (baZ b u) v) = vtZ v := by
  obtain ⟨h1, h2, _⟩ := spB_iff.1 h
  have hb := ba_bd h2
  unfold vtZ
  rw [sp_vo h, h1]
  exact sp_sum (by omega) v 0 (vo_pos h1)
/-- divided again at the same bars it stays. -/
theorem sp_again {v : List Nt} {b u : Int} (h : spB v b u = true) : spB (spL (baZ b u) v) b u = true ∧ spL (baZ b u) (spL (baZ b u) v) = spL (baZ b u) v := by
  obtain ⟨h1, h2, h3⟩ := spB_iff.1 h
  have hb := ba_bd h2
  have e : spL (baZ b u) (spL (baZ b u) v) = spL (baZ b u) v := sp_sp (by omega) (by omega) (Int.dvd_refl _) v 0 (vo_pos h1)
  exact ⟨spB_iff.2 ⟨sp_vo h, h2, by rw [e]; exact h3⟩, e⟩
theorem me_beat {b u : Int} (h : meB b u = true) : meB 1 u = true ∧ baZ 1 u = beZ u ∧ beZ u ∣ baZ b u := by
  obtain ⟨_, hu⟩ := meB_iff.1 h
  have h1 : meB 1 u = true := meB_iff.2 ⟨by omega, hu⟩
  refine ⟨h1, by rw [ba_be h1, Int.one_mul], ?_⟩
  rw [ba_be h]
  exact ⟨b, Int.mul_comm _ _⟩
/-- the bars have room for the voice, and one less has not. -/
theorem bc_bd {v : List Nt} {b u : Int} (h1 : voB v = true) (h2 : meB b u = true) : 0 ≤ bcN v b u ∧ bcN v b u ≤ 4000 ∧ sumT v ≤ bcN v b u * baZ b u ∧ bcN v b u * baZ b u < sumT v + baZ b u := by
  have hb := ba_bd h2
  have hs := sum_bd h1
  have e := Int.mul_ediv_add_emod (sumT v + baZ b u - 1) (baZ b u)
  have m0 := Int.emod_nonneg (sumT v + baZ b u - 1) (show baZ b u ≠ 0 by omega)
  have m1 := Int.emod_lt_of_pos (sumT v + baZ b u - 1) (show 0 < baZ b u by omega)
  have q0 : 0 ≤ bcN v b u := Int.ediv_nonneg (by omega) (by omega)
  have e2 : baZ b u * bcN v b u + (sumT v + baZ b u - 1) % baZ b u = sumT v + baZ b u - 1 := e
  rw [Int.mul_comm] at e2
  refine ⟨q0, ?_, by omega, by omega⟩
  have h3 : bcN v b u * 12 ≤ bcN v b u * baZ b u := Int.mul_le_mul_of_nonneg_left (by omega) q0
  omega
theorem lf_bd {v : List Nt} {b u : Int} (h1 : voB v = true) (h2 : meB b u = true) : 0 ≤ lfN v b u ∧ lfN v b u < baZ b u := by
  have := bc_bd h1 h2
  unfold lfN
  omega
theorem bc_zero {v : List Nt} {b u : Int} (h1 : voB v = true) (h2 : meB b u = true) (h : bcN v b u = 0) : sumT v = 0 := by
  have hb := bc_bd h1 h2
  have hs := sum_bd h1
  rw [h] at hb
  omega
theorem bc_less {v : List Nt} {b u : Int} (h1 : voB v = true) (h2 : meB b u = true) : (bcN v b u - 1) * baZ b u < sumT v := by
  have hb := bc_bd h1 h2
  rw [Int.sub_mul, Int.one_mul]
  omega
end Go.Proofs.YtcifmpjefhichaaDoor
