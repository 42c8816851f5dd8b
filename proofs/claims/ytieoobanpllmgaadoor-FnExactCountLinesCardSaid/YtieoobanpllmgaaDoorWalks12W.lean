/- One fault more behind the others (withFault of the program). -/
import Derived.Test.YtieoobanpllmgaaDoorOwn
import Derived.Test.YtieoobanpllmgaaDoorWalks10T
namespace Go.Proofs.YtieoobanpllmgaaDoor
set_option linter.unusedSimpArgs false
set_option linter.unusedVariables false
set_option maxRecDepth 8000
open Go.RowKit


theorem infoFa : (Tryd.prog.info? 100).map (fun i => (i.zero, i.size, i.bytes)) = some (some (.agg #[.int .i64 0, .int .i64 0]), 2, 16) := by kernel_rfl
theorem tnC_snoc (u : List (Int × Int)) (a b : Int) : tnC u ++ [.int .i64 a, .int .i64 b] = tnC (u ++ [(a, b)]) := by simp [tnC, ivC2]
/-- One fault more behind the others, unless its code is 0. -/
def wfL (us : List (Int × Int)) (k c : Int) : List (Int × Int) := us ++ if c = 0 then [] else [(k, c)]
theorem wf_len (us : List (Int × Int)) (k c : Int) : (wfL us k c).length ≤ us.length + 1 := by
  unfold wfL
  split <;> simp

set_option maxRecDepth 8000 in
set_option maxHeartbeats 4000000 in
theorem wfI_own {n : Nat} {B : World → Prop} {w : World} {L : List Item} (v : Value) (us : List (Int × Int)) (k c : Int) (hn : us.length ≤ 1000000000) (hO : Own n B w (.row 100 2 v us.length (tnC us) :: L)) :
    Calls Tryd.prog 63 #[v, .int .i64 k, .int .i64 c] w (OwnOut n B fun v' L' => L' = .row 100 2 v' (wfL us k c).length (tnC (wfL us k c)) :: L) := by
  have hF := True.intro
  have hU := True.intro
  obtain ⟨i0, hi0, hz0, hz1, hz2⟩ := info_parts infoFa
  obtain ⟨A, cA, hv⟩ := (SlAt.of_row hO.1.1).form
  obtain ⟨q, hq⟩ : ∃ q, us.length = q := ⟨_, rfl⟩
  have HQ := hid hq
  rw [hq] at hO hv hn
  subst hv
  by_cases hc : c = 0
  · have HE := hid (show wfL us k c = us by unfold wfL; rw [if_pos hc, List.append_nil])
    subst hc
    clear hq
    go_enter Tryd.func63, Tryd.ntmps63
    go_wp2_with fail
    go_ret
    exact ⟨_, _, rfl, by rw [HE.out, HQ.out]; try rfl, hO⟩
  · have h2 : (c == 0) = false := by simp [hc]
    have HE := hid (show tnC us ++ [.int .i64 k, .int .i64 c] = tnC (wfL us k c) ∧ q + 1 = (wfL us k c).length by
      unfold wfL
      rw [if_neg hc, tnC_snoc, List.length_append, HQ.out]; exact ⟨rfl, rfl⟩)
    clear hq hc
    go_enter Tryd.func63, Tryd.ntmps63
    go_wp2_with (at_builtin; apply own_list hO; (repeat (first | (with_reducible exact hO) | (with_reducible apply Own.alloc) | (with_reducible apply Own.drew) | ((with_reducible apply Own.set_at); (focus (show _ ≤ _; omega))))); have hG := hF; clear hF; clear hO; intro hO; (try simp only [World.size_alloc1, World.size_drew, Nat.reduceAdd] at hO); (try simp only [upd, updI, List.map_cons, List.map_nil, eq_self, if_true, if_false, reduceIte, Nat.add_eq_left, Nat.left_eq_add, Nat.reduceEqDiff, List.set_cons_zero, List.set_cons_succ, hU, hG] at hO); clear hG; (try simp only [World.size_setCell] at hO); have hF := hO; (try simp only [Own, Item.Holds, apartI, CellsAt, Nat.reduceAdd, Nat.zero_add, List.mem_cons, List.not_mem_nil, or_false, forall_eq_or_imp, forall_eq, ne_eq, false_imp_iff, implies_true, and_true] at hF); refine wpList_append_item rfl _ _ 69 rfl 100 i0 (.agg #[.int .i64 0, .int .i64 0]) 2 16 Tryd.underlying69 hi0 hz0 hz1 hz2 rfl (by decide) rfl rfl hO rfl one2t (by unfold maxLen; omega) (by omega) ?_; clear hO hF; intro v' w2 hO _; have hF := True.intro)
    go_ret
    exact ⟨_, _, rfl, by rw [← HE.out.1, ← HE.out.2]; try rfl, hO⟩

theorem hu_eq {d r : Int} (h : d.tmod 12 = r) : -12 < r ∧ r < 12 ∧ (r + 12) % 12 = (d + 120) % 12 := by
  have h1 := Int.lt_tmod_of_pos d (show (0 : Int) < 12 by omega)
  have h2 := Int.tmod_lt_of_pos d (show (0 : Int) < 12 by omega)
  have h3 := Int.mul_tdiv_add_tmod d 12
  rw [h] at h1 h2 h3
  omega
set_option maxHeartbeats 800000 in
theorem huI_is {p q z : Int} (p0 : -200 ≤ p) (p1 : p ≤ 200) (q0 : -200 ≤ q) (q1 : q ≤ 200) (h : (q - p + 120) % 12 = z) (w : World) : Calls Tryd.prog 90 #[.int .i64 p, .int .i64 q] w fun e w' => e = .returned (.int .i64 z) ∧ Below w.heap.size w w' := by
  have hO := Own.start w
  have hF := True.intro
  have wd : IntKind.i64.wrap (q - p) = q - p := IntWalk.i64_in _ (by omega)
  obtain ⟨d, hd⟩ : ∃ d, q - p = d := ⟨_, rfl⟩
  rw [hd] at wd h
  obtain ⟨r, hr⟩ : ∃ r, d.tmod 12 = r := ⟨_, rfl⟩
  obtain ⟨r0, r1, r2⟩ := hu_eq hr
  have we : IntKind.i64.wrap r = r := IntWalk.i64_in _ (by omega)
  have wf : IntKind.i64.wrap (r + 12) = r + 12 := IntWalk.i64_in _ (by omega)
  have te : (r + 12).tmod 12 = z := by rw [Int.tmod_eq_emod_of_nonneg (by omega), r2, h]
  have wz : IntKind.i64.wrap z = z := IntWalk.i64_in _ (by omega)
  clear h r2
  go_enter Tryd.func90, Tryd.ntmps90
  go_wp2
  go_ret
  first | exact ⟨rfl, Own.base (by first | exact hO | (repeat (first | (with_reducible exact hO) | (with_reducible apply Own.alloc) | (with_reducible apply Own.drew) | ((with_reducible apply Own.set_at); (focus (show _ ≤ _; omega))))))⟩ | exact Own.base (by first | exact hO | (repeat (first | (with_reducible exact hO) | (with_reducible apply Own.alloc) | (with_reducible apply Own.drew) | ((with_reducible apply Own.set_at); (focus (show _ ≤ _; omega))))))

end Go.Proofs.YtieoobanpllmgaaDoor
