/- The walks of the laws of chapter 5's promises: turned voices join alike. -/
import Derived.Test.YtcifmpjefhichaaDoorLawsVo
import Derived.Test.YtcifmpjefhichaaDoorWalks5N
namespace Go.Proofs.YtcifmpjefhichaaDoor
set_option linter.unusedSimpArgs false
set_option linter.unusedVariables false
open Go.RowKit

theorem jtL_yes {v : List Nt} (h : voB v = true) : jtL v = joL v := by unfold jtL; rw [if_pos h]
theorem jtL_no {v : List Nt} (h : voB v = false) : jtL v = [] := by unfold jtL; rw [h]; rfl
theorem vt_jo {v : List Nt} (h : voB v = true) : vtZ (joL v) = vtZ v := by
  unfold vtZ
  rw [h, joL_vo h]
  exact joL_sum v
theorem any_up {b : List Nt} {j : Nat} {x : Nt} (hx : b[j]? = some x) : (b.take (j + 1)).any (·.y) = ((b.take j).any (·.y) || x.y) := by
  rw [List.take_add_one, hx]; simp
/-- What both joined voices have: as many ticks, and as many notes if no tie is kept. -/
theorem tu_both (v : List Nt) : vtZ (jtL (ttL v)) = vtZ (jtL v) ∧ ((jtL v).any (·.y) = false → (jtL (ttL v)).length = (jtL v).length) ∧ (ttL v).length ≤ v.length ∧ (jtL v).length ≤ v.length ∧ (jtL (ttL v)).length ≤ v.length := by
  cases hv : voB v
  · rw [ttL_no hv, jtL_no hv, jtL_yes (v := []) (by decide)]
    refine ⟨rfl, fun _ => rfl, by simp, by simp, by simp [joL]⟩
  · rw [ttL_yes hv, jtL_yes hv, jtL_yes (tuL_vo hv)]
    have h1 := joL_len v
    have h2 := joL_len (tuL v)
    rw [tuL_len] at h2
    refine ⟨by rw [vt_jo (tuL_vo hv), vt_jo hv, vt_tu hv], fun h => tu_jo (voB_iff.1 hv).1 fun z hz => ?_, by rw [tuL_len]; omega, h1, h2⟩
    cases hy : z.y with
    | false => rfl
    | true =>
      have : (joL v).any (·.y) = true := List.any_eq_true.2 ⟨z, hz, hy⟩
      rw [h] at this; cases this