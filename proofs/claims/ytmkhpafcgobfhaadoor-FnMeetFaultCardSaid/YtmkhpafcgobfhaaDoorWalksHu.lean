/- How many half tones it is up, modulo 12 (halvesUp of the program). -/
import Derived.Test.YtmkhpafcgobfhaaDoorOwn
import Derived.Test.YtmkhpafcgobfhaaDoorProg
namespace Go.Proofs.YtmkhpafcgobfhaaDoor
set_option linter.unusedSimpArgs false
set_option linter.unusedVariables false
set_option maxRecDepth 8000
open Go.RowKit

theorem hu_eq {d r : Int} (h : d.tmod 12 = r) : -12 < r ∧ r < 12 ∧ (r + 12) % 12 = (d + 120) % 12 := by
  have h1 := Int.lt_tmod_of_pos d (show (0 : Int) < 12 by omega)
  have h2 := Int.tmod_lt_of_pos d (show (0 : Int) < 12 by omega)
  have h3 := Int.mul_tdiv_add_tmod d 12
  rw [h] at h1 h2 h3
  omega
set_option maxHeartbeats 800000 in
theorem huI_is {p q z : Int} (p0 : -200 ≤ p) (p1 : p ≤ 200) (q0 : -200 ≤ q) (q1 : q ≤ 200) (h : (q - p + 120) % 12 = z) (w : World) : Calls Tryd.prog 86 #[.int .i64 p, .int .i64 q] w fun e w' => e = .returned (.int .i64 z) ∧ Below w.heap.size w w' := by
  have hO := Own.start w
  have hF := True.intro
  have wd : IntKind.i64.wrap (q - p) = q - p := IntWalk.i64_in _ (by omega)
  obtain ⟨d, hd⟩ : ∃ d, q - p = d := ⟨_, rfl⟩
  rw [hd] at wd h
  obtain ⟨r, hr⟩ : ∃ r, d.tmod 12 = r := ⟨_, rfl⟩
  obtain ⟨r0, r1, r2⟩ := hu_eq hr
  have we : IntKind.i64.wrap r = r := IntWalk.i64_in _ (by omega)
  have wf : IntKind.i64.wrap (r + 12) = r + 12 := IntWalk.i64_in _ (by omega)
  have te : (r + 12).tmod 12 = z := by rw [Int.tmod_eq_emod_of_nonneg (by omega), r2, h]
  have wz : IntKind.i64.wrap z = z := IntWalk.i64_in _ (by omega)
  clear h r2
  go_enter Tryd.func86, Tryd.ntmps86
  go_wp2
  go_ret
  first | exact ⟨rfl, Own.base (by first | exact hO | (repeat (first | (with_reducible exact hO) | (with_reducible apply Own.alloc) | (with_reducible apply Own.drew) | ((with_reducible apply Own.set_at); (focus (show _ ≤ _; omega))))))⟩ | exact Own.base (by first | exact hO | (repeat (first | (with_reducible exact hO) | (with_reducible apply Own.alloc) | (with_reducible apply Own.drew) | ((with_reducible apply Own.set_at); (focus (show _ ≤ _; omega))))))

end Go.Proofs.YtmkhpafcgobfhaaDoor
