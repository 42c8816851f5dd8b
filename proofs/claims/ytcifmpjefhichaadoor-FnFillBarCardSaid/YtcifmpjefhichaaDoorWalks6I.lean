/- Chapter 6 in the program: meters; the ticks of a bar; the beat of a tick. -/
import Derived.Test.YtcifmpjefhichaaDoorCon6
import Derived.Test.YtcifmpjefhichaaDoorWalks4I
import Derived.Test.YtcifmpjefhichaaDoorWalks5C
namespace Go.Proofs.YtcifmpjefhichaaDoor
set_option linter.unusedSimpArgs false
set_option linter.unusedVariables false
open Go.RowKit

theorem me_base {b u : Int} : meB b u = (decide (1 ≤ b) && decide (b ≤ 12) && decide (1 < u) && baseB u) := by
  rw [Bool.eq_iff_iff, meB_iff]
  simp only [Bool.and_eq_true, decide_eq_true_eq, baseB_iff]
  omega

set_option maxHeartbeats 4000000 in
theorem meI_any (b u : Int) (w : World) (hT : TabB w) :
    Calls Tryd.prog 16 #[.agg #[.int .i64 b, .int .i64 u]] w fun e w' => e = .returned (.bool (meB b u)) ∧ Below w.heap.size w w' := by
  have hO := Own.start w
  have hF := True.intro
  obtain ⟨x, hx⟩ : ∃ x, baseB u = x := ⟨_, rfl⟩
  have HX := hid hx
  clear hx
  have HT := hid hT
  clear hT
  go_enter Tryd.func16, Tryd.ntmps16
  go_wp2_with (go_at_call 47; apply own_at hO; (repeat (first | (with_reducible exact hO) | (with_reducible apply Own.alloc) | (with_reducible apply Own.drew) | ((with_reducible apply Own.set_at); (focus (show _ ≤ _; omega))))); have hG := hF; clear hF; clear hO; intro hO; refine own_call hO (fun hB => still (bvI_is _ (HT.out.below hB) HX.out)) ?_; clear hO; intro w1 hO; (try simp only [World.size_alloc1, World.size_drew, Nat.reduceAdd] at hO); (try simp only [upd, updI, List.map_cons, List.map_nil, eq_self, if_true, if_false, reduceIte, Nat.add_eq_left, Nat.left_eq_add, Nat.reduceEqDiff, List.set_cons_zero, List.set_cons_succ, hG] at hO); clear hG; have hF := hO; (try simp only [Own, Item.Holds, apartI, CellsAt, Nat.reduceAdd, Nat.zero_add, List.mem_cons, List.not_mem_nil, or_false, forall_eq_or_imp, forall_eq, ne_eq, false_imp_iff, implies_true, and_true] at hF))
  all_goals go_ret
  all_goals exact ⟨ret_bool (by rw [me_base, HX.out]; cases x <;> simp_all <;> omega), Own.base (by (repeat (first | (with_reducible exact hO) | (with_reducible apply Own.alloc) | (with_reducible apply Own.drew) | ((with_reducible apply Own.set_at); (focus (show _ ≤ _; omega))))))⟩
theorem meI_is {b u : Int} {o : Bool} {w : World} (hT : TabB w) (h : meB b u = o) (W : World) (hW : Below w.heap.size w W) :
    Calls Tryd.prog 16 #[.agg #[.int .i64 b, .int .i64 u]] W fun e w' => e = .returned (.bool o) ∧ Below W.heap.size W w' := by
  subst h; exact meI_any b u W (hT.below hW)

set_option maxHeartbeats 4000000 in
theorem bkI_any (b u : Int) (w : World) (hm : meB b u = true) :
    Calls Tryd.prog 50 #[.agg #[.int .i64 b, .int .i64 u]] w fun e w' => e = .returned (.int .i64 (beZ u)) ∧ Below w.heap.size w w' := by
  have hO := Own.start w
  have hF := True.intro
  have hc := be_bd hm
  have e1 := me_beat2 hm
  have w3 : IntKind.i64.wrap (beZ u) = beZ u := IntWalk.i64_in _ (by omega)
  have u0 : ¬ u = 0 := by have := (meB_iff.1 hm).2; omega
  clear hm
  go_enter Tryd.func50, Tryd.ntmps50
  go_wp2
  go_ret
  exact ⟨rfl, Own.base (by (repeat (first | (with_reducible exact hO) | (with_reducible apply Own.alloc) | (with_reducible apply Own.drew) | ((with_reducible apply Own.set_at); (focus (show _ ≤ _; omega))))))⟩
theorem bkI_is {b u z : Int} (hm : meB b u = true) (h : beZ u = z) (W : World) :
    Calls Tryd.prog 50 #[.agg #[.int .i64 b, .int .i64 u]] W fun e w' => e = .returned (.int .i64 z) ∧ Below W.heap.size W w' := by
  subst h; exact bkI_any b u W hm

set_option maxHeartbeats 4000000 in
theorem btI_any (b u : Int) (w : World) (hT : TabB w) :
    Calls Tryd.prog 20 #[.agg #[.int .i64 b, .int .i64 u]] w fun e w' => e = .returned (.int .i64 (btZ b u)) ∧ Below w.heap.size w w' := by
  have hO := Own.start w
  have hF := True.intro
  cases hm : meB b u
  · have HE := hid (show btZ b u = -1 by unfold btZ; rw [hm]; rfl)
    have HM := hid (meI_is hT hm)
    clear hm hT
    go_enter Tryd.func20, Tryd.ntmps20
    go_wp2_with (go_at_call 16; apply own_at hO; (repeat (first | (with_reducible exact hO) | (with_reducible apply Own.alloc) | (with_reducible apply Own.drew) | ((with_reducible apply Own.set_at); (focus (show _ ≤ _; omega))))); have hG := hF; clear hF; clear hO; intro hO; refine own_call hO (fun hB => HM.out _ hB) ?_; clear hO; intro w1 hO; (try simp only [World.size_alloc1, World.size_drew, Nat.reduceAdd] at hO); (try simp only [upd, updI, List.map_cons, List.map_nil, eq_self, if_true, if_false, reduceIte, Nat.add_eq_left, Nat.left_eq_add, Nat.reduceEqDiff, List.set_cons_zero, List.set_cons_succ, hG] at hO); clear hG; have hF := hO; (try simp only [Own, Item.Holds, apartI, CellsAt, Nat.reduceAdd, Nat.zero_add, List.mem_cons, List.not_mem_nil, or_false, forall_eq_or_imp, forall_eq, ne_eq, false_imp_iff, implies_true, and_true] at hF))
    go_ret
    exact ⟨ret_int HE.out.symm, Own.base (by (repeat (first | (with_reducible exact hO) | (with_reducible apply Own.alloc) | (with_reducible apply Own.drew) | ((with_reducible apply Own.set_at); (focus (show _ ≤ _; omega))))))⟩
  · have HE := hid (show btZ b u = b * beZ u by unfold btZ; rw [hm, ← ba_be hm]; rfl)
    have HM := hid (meI_is hT hm)
    have hb := ba_bd hm
    rw [ba_be hm] at hb
    obtain ⟨q, hq⟩ : ∃ q, beZ u = q := ⟨_, rfl⟩
    have HK := hid (bkI_is hm hq)
    rw [hq] at HE hb
    have w1 : IntKind.i64.wrap (b * q) = b * q := IntWalk.i64_in _ (by omega)
    clear hm hT hq
    go_enter Tryd.func20, Tryd.ntmps20
    go_wp2_with (go_at_call 16; apply own_at hO; (repeat (first | (with_reducible exact hO) | (with_reducible apply Own.alloc) | (with_reducible apply Own.drew) | ((with_reducible apply Own.set_at); (focus (show _ ≤ _; omega))))); have hG := hF; clear hF; clear hO; intro hO; refine own_call hO (fun hB => HM.out _ hB) ?_; clear hO; intro w1 hO; (try simp only [World.size_alloc1, World.size_drew, Nat.reduceAdd] at hO); (try simp only [upd, updI, List.map_cons, List.map_nil, eq_self, if_true, if_false, reduceIte, Nat.add_eq_left, Nat.left_eq_add, Nat.reduceEqDiff, List.set_cons_zero, List.set_cons_succ, hG] at hO); clear hG; have hF := hO; (try simp only [Own, Item.Holds, apartI, CellsAt, Nat.reduceAdd, Nat.zero_add, List.mem_cons, List.not_mem_nil, or_false, forall_eq_or_imp, forall_eq, ne_eq, false_imp_iff, implies_true, and_true] at hF))
    apply own_code hO
    (repeat (first | (with_reducible exact hO) | (with_reducible apply Own.alloc) | (with_reducible apply Own.drew) | ((with_reducible apply Own.set_at); (focus (show _ ≤ _; omega)))))
    have hG := hF; clear hF; clear hO; intro hO
    (try simp only [World.size_alloc1, World.size_drew, Nat.reduceAdd] at hO); (try simp only [upd, updI, List.map_cons, List.map_nil, eq_self, if_true, if_false, reduceIte, Nat.add_eq_left, Nat.left_eq_add, Nat.reduceEqDiff, List.set_cons_zero, List.set_cons_succ, hG] at hO); clear hG
    refine region_own (X := fun _ => True) [] (by kernel_rfl) (hO) (trivial) (by first | exact XStab.true | exact XStab.rd | exact XStab.rdIf) ?_
    clear hO
    refine Sim.takeP (i := 0) (d := some 6) (v := ?_) rfl rfl (by kernel_rfl) (by kernel_rfl) (by kernel_rfl) (fun _ _ _ h => h) (by first | exact XStab.true | exact XStab.rd | exact XStab.rdIf) ?_ ?_
    rotate_left
    · first | refine Or.inl ⟨by rfl, fun w => ?_⟩ | (refine Or.inr ⟨by rfl, ?_⟩; with_reducible rfl)
      first | done | (go_simp; all_goals with_reducible rfl)
    try simp only [Act.put, List.setIfInBounds_toArray, List.set_cons_zero, List.set_cons_succ]
    refine Sim.take (i := 1) (d := some 7) (v := ?_) rfl rfl (by kernel_rfl) (by kernel_rfl) (by kernel_rfl) (by kernel_rfl) (fun _ _ _ h => h) (by first | exact XStab.true | exact XStab.rd | exact XStab.rdIf) ?_ ?_
    rotate_left
    · first | refine Or.inl ⟨by rfl, fun w hO => ?_⟩ | (refine Or.inr ⟨by rfl, ?_⟩; with_reducible rfl)
      first | done | (have hF := hO; (try simp only [Own, Item.Holds, apartI, CellsAt, Nat.reduceAdd, Nat.zero_add, List.mem_cons, List.not_mem_nil, or_false, forall_eq_or_imp, forall_eq, ne_eq, false_imp_iff, implies_true, and_true] at hF); refine Out.same ?_; go_simp; all_goals with_reducible rfl)
    try simp only [Act.put, List.setIfInBounds_toArray, List.set_cons_zero, List.set_cons_succ]
    refine Sim.take (i := 2) (d := some 8) (v := ?_) rfl rfl (by kernel_rfl) (by kernel_rfl) (by kernel_rfl) (by kernel_rfl) (fun _ _ _ h => h) (by first | exact XStab.true | exact XStab.rd | exact XStab.rdIf) ?_ ?_
    rotate_left
    · first | refine Or.inl ⟨by rfl, fun w hO => ?_⟩ | (refine Or.inr ⟨by rfl, ?_⟩; with_reducible rfl)
      first | done | (have hF := hO; (try simp only [Own, Item.Holds, apartI, CellsAt, Nat.reduceAdd, Nat.zero_add, List.mem_cons, List.not_mem_nil, or_false, forall_eq_or_imp, forall_eq, ne_eq, false_imp_iff, implies_true, and_true] at hF); refine Out.same ?_; go_simp; all_goals with_reducible rfl)
    try simp only [Act.put, List.setIfInBounds_toArray, List.set_cons_zero, List.set_cons_succ]
    refine Sim.take (i := 3) (d := some 9) (v := ?_) rfl rfl (by kernel_rfl) (by kernel_rfl) (by kernel_rfl) (by kernel_rfl) (fun _ _ _ h => h) (by first | exact XStab.true | exact XStab.rd | exact XStab.rdIf) ?_ ?_
    rotate_left
    · first | refine Or.inl ⟨by rfl, fun w hO => ?_⟩ | (refine Or.inr ⟨by rfl, ?_⟩; with_reducible rfl)
      first | done | (refine Out.call (f := 50) (args := ?_) ?_ ?_; rotate_left; (focus (go_simp; all_goals with_reducible rfl)); exact HK.out _)
    try simp only [Act.put, List.setIfInBounds_toArray, List.set_cons_zero, List.set_cons_succ]
    refine Sim.takeP (i := 4) (d := some 10) (v := ?_) rfl rfl (by kernel_rfl) (by kernel_rfl) (by kernel_rfl) (fun _ _ _ h => h) (by first | exact XStab.true | exact XStab.rd | exact XStab.rdIf) ?_ ?_
    rotate_left
    · first | refine Or.inl ⟨by rfl, fun w => ?_⟩ | (refine Or.inr ⟨by rfl, ?_⟩; with_reducible rfl)
      first | done | (go_simp; all_goals with_reducible rfl)
    try simp only [Act.put, List.setIfInBounds_toArray, List.set_cons_zero, List.set_cons_succ]
    refine Sim.takeP (i := 5) (d := some 2) (v := ?_) rfl rfl (by kernel_rfl) (by kernel_rfl) (by kernel_rfl) (fun _ _ _ h => h) (by first | exact XStab.true | exact XStab.rd | exact XStab.rdIf) ?_ ?_
    rotate_left
    · first | refine Or.inl ⟨by rfl, fun w => ?_⟩ | (refine Or.inr ⟨by rfl, ?_⟩; with_reducible rfl)
      first | done | (go_simp; all_goals with_reducible rfl)
    try simp only [Act.put, List.setIfInBounds_toArray, List.set_cons_zero, List.set_cons_succ]
    refine Sim.done (by kernel_rfl) (fun w1 hO hX => ?_) _
    (try simp only [World.size_alloc1, World.size_drew, Nat.reduceAdd] at hO); (try simp only [upd, updI, List.map_cons, List.map_nil, eq_self, if_true, if_false, reduceIte, Nat.add_eq_left, Nat.left_eq_add, Nat.reduceEqDiff, List.set_cons_zero, List.set_cons_succ] at hO)
    have hF := hO; (try simp only [Own, Item.Holds, apartI, CellsAt, Nat.reduceAdd, Nat.zero_add, List.mem_cons, List.not_mem_nil, or_false, forall_eq_or_imp, forall_eq, ne_eq, false_imp_iff, implies_true, and_true] at hF)
    go_wp2_with fail
    go_ret
    exact ⟨ret_int HE.out.symm, Own.base (by (repeat (first | (with_reducible exact hO) | (with_reducible apply Own.alloc) | (with_reducible apply Own.drew) | ((with_reducible apply Own.set_at); (focus (show _ ≤ _; omega))))))⟩
theorem btI_is {b u z : Int} {w : World} (hT : TabB w) (h : btZ b u = z) (W : World) (hW : Below w.heap.size w W) :
    Calls Tryd.prog 20 #[.agg #[.int .i64 b, .int .i64 u]] W fun e w' => e = .returned (.int .i64 z) ∧ Below W.heap.size W w' := by
  subst h; exact btI_any b u W (hT.below hW)

theorem div_two {t b q : Int} (hb : 1 ≤ b) (hq : 1 ≤ q) (_ : 0 ≤ t) : t / q / b = t / (b * q) ∧ t / q % b = t % (b * q) / q := by
  have e1 : t / q / b = t / (b * q) := by rw [Int.mul_comm b q]; exact Int.ediv_ediv_of_nonneg (by omega)
  refine ⟨e1, ?_⟩
  rw [Int.emod_def, Int.emod_def t, e1, show t - b * q * (t / (b * q)) = t + q * (-(b * (t / (b * q)))) by rw [Int.mul_neg, Int.mul_comm b q, Int.mul_assoc]; omega, Int.add_mul_ediv_left _ _ (by omega)]
  omega

set_option maxHeartbeats 4000000 in
theorem beI_any (b u t : Int) (w : World) (hT : TabB w) (ht : t ≤ 9223372036854775807) :
    Calls Tryd.prog 24 #[.agg #[.int .i64 b, .int .i64 u], .int .i64 t] w fun e w' => e = .returned (.tuple #[.int .i64 (beX b u t), .int .i64 (beY b u t), .int .i64 (beW b u t)]) ∧ Below w.heap.size w w' := by
  have hO := Own.start w
  have hF := True.intro
  cases hm : meB b u
  · have HE := hid (show beX b u t = -1 ∧ beY b u t = -1 ∧ beW b u t = -1 by simp [beX, beY, beW, beO, hm])
    have HM := hid (meI_is hT hm)
    clear hm hT
    go_enter Tryd.func24, Tryd.ntmps24
    go_wp2_with (go_at_call 16; apply own_at hO; (repeat (first | (with_reducible exact hO) | (with_reducible apply Own.alloc) | (with_reducible apply Own.drew) | ((with_reducible apply Own.set_at); (focus (show _ ≤ _; omega))))); have hG := hF; clear hF; clear hO; intro hO; refine own_call hO (fun hB => HM.out _ hB) ?_; clear hO; intro w1 hO; (try simp only [World.size_alloc1, World.size_drew, Nat.reduceAdd] at hO); (try simp only [upd, updI, List.map_cons, List.map_nil, eq_self, if_true, if_false, reduceIte, Nat.add_eq_left, Nat.left_eq_add, Nat.reduceEqDiff, List.set_cons_zero, List.set_cons_succ, hG] at hO); clear hG; have hF := hO; (try simp only [Own, Item.Holds, apartI, CellsAt, Nat.reduceAdd, Nat.zero_add, List.mem_cons, List.not_mem_nil, or_false, forall_eq_or_imp, forall_eq, ne_eq, false_imp_iff, implies_true, and_true] at hF))
    apply own_end hO
    (repeat (first | (with_reducible exact hO) | (with_reducible apply Own.alloc) | (with_reducible apply Own.drew) | ((with_reducible apply Own.set_at); (focus (show _ ≤ _; omega)))))
    have hG := hF; clear hF; clear hO; intro hO
    refine own_ret (v := .tuple #[.int .i64 (-1), .int .i64 (-1), .int .i64 (-1)]) hO ?_ rfl (fun hO => ⟨by rw [HE.out.1, HE.out.2.1, HE.out.2.2], hO.base⟩)
    clear hO; intro w1 hO
    (try simp only [World.size_alloc1, World.size_drew, Nat.reduceAdd] at hO); (try simp only [upd, updI, List.map_cons, List.map_nil, eq_self, if_true, if_false, reduceIte, Nat.add_eq_left, Nat.left_eq_add, Nat.reduceEqDiff, List.set_cons_zero, List.set_cons_succ, hG] at hO); clear hG
    have hF := hO; (try simp only [Own, Item.Holds, apartI, CellsAt, Nat.reduceAdd, Nat.zero_add, List.mem_cons, List.not_mem_nil, or_false, forall_eq_or_imp, forall_eq, ne_eq, false_imp_iff, implies_true, and_true] at hF)
    simp [results, Tryd.results24, go_sem, hF]
  by_cases h0 : 0 ≤ t
  · have HM := hid (meI_is hT hm)
    have hc := be_bd hm
    have h1 := (meB_iff.1 hm).1
    have h2 := div_two (b := b) (q := beZ u) h1.1 (by omega) h0
    have HE := hid (show beX b u t = t / beZ u / b ∧ beY b u t = t / beZ u % b ∧ beW b u t = t % beZ u by simp [beX, beY, beW, beO, hm, h0, ba_be hm, h2.1, h2.2])
    obtain ⟨q, hq⟩ : ∃ q, beZ u = q := ⟨_, rfl⟩
    have HK := hid (bkI_is hm hq)
    rw [hq] at HE hc
    have h0' : ¬ t < 0 := by omega
    have q0 : ¬ q = 0 := by omega
    have b0 : ¬ b = 0 := by omega
    have m2 := Int.emod_nonneg t (show q ≠ 0 by omega)
    have m3 := Int.emod_lt_of_pos t (show 0 < q by omega)
    have d0 := Int.ediv_nonneg h0 (show 0 ≤ q by omega)
    have d1 := Int.ediv_le_self q h0
    have f1 : t.tdiv q = t / q := Int.tdiv_eq_ediv_of_nonneg h0
    have f4 : t.tmod q = t % q := Int.tmod_eq_emod_of_nonneg h0
    have g1 : IntKind.i64.wrap (t / q) = t / q := IntWalk.i64_in _ (by omega)
    have g4 : IntKind.i64.wrap (t % q) = t % q := IntWalk.i64_in _ (by omega)
    obtain ⟨k, hk⟩ : ∃ k, t / q = k := ⟨_, rfl⟩
    rw [hk] at HE d0 d1 f1 g1
    have m0 := Int.emod_nonneg k (show b ≠ 0 by omega)
    have m1 := Int.emod_lt_of_pos k (show 0 < b by omega)
    have d2 := Int.ediv_nonneg d0 (show 0 ≤ b by omega)
    have d3 := Int.ediv_le_self b d0
    have f2 : k.tdiv b = k / b := Int.tdiv_eq_ediv_of_nonneg d0
    have f3 : k.tmod b = k % b := Int.tmod_eq_emod_of_nonneg d0
    have g2 : IntKind.i64.wrap (k / b) = k / b := IntWalk.i64_in _ (by omega)
    have g3 : IntKind.i64.wrap (k % b) = k % b := IntWalk.i64_in _ (by omega)
    clear hm hT hq hk m0 m1 m2 m3 d0 d1 d2 d3 ht h0 h1 h2 hc
    go_enter Tryd.func24, Tryd.ntmps24
    go_wp2_with (first | (go_at_call 16; apply own_at hO; (repeat (first | (with_reducible exact hO) | (with_reducible apply Own.alloc) | (with_reducible apply Own.drew) | ((with_reducible apply Own.set_at); (focus (show _ ≤ _; omega))))); have hG := hF; clear hF; clear hO; intro hO; refine own_call hO (fun hB => HM.out _ hB) ?_; clear hO; intro w1 hO; (try simp only [World.size_alloc1, World.size_drew, Nat.reduceAdd] at hO); (try simp only [upd, updI, List.map_cons, List.map_nil, eq_self, if_true, if_false, reduceIte, Nat.add_eq_left, Nat.left_eq_add, Nat.reduceEqDiff, List.set_cons_zero, List.set_cons_succ, hG] at hO); clear hG; have hF := hO; (try simp only [Own, Item.Holds, apartI, CellsAt, Nat.reduceAdd, Nat.zero_add, List.mem_cons, List.not_mem_nil, or_false, forall_eq_or_imp, forall_eq, ne_eq, false_imp_iff, implies_true, and_true] at hF)) | (go_at_call 50; apply own_at hO; (repeat (first | (with_reducible exact hO) | (with_reducible apply Own.alloc) | (with_reducible apply Own.drew) | ((with_reducible apply Own.set_at); (focus (show _ ≤ _; omega))))); have hG := hF; clear hF; clear hO; intro hO; refine own_call hO (fun hB => HK.out _) ?_; clear hO; intro w1 hO; (try simp only [World.size_alloc1, World.size_drew, Nat.reduceAdd] at hO); (try simp only [upd, updI, List.map_cons, List.map_nil, eq_self, if_true, if_false, reduceIte, Nat.add_eq_left, Nat.left_eq_add, Nat.reduceEqDiff, List.set_cons_zero, List.set_cons_succ, hG] at hO); clear hG; have hF := hO; (try simp only [Own, Item.Holds, apartI, CellsAt, Nat.reduceAdd, Nat.zero_add, List.mem_cons, List.not_mem_nil, or_false, forall_eq_or_imp, forall_eq, ne_eq, false_imp_iff, implies_true, and_true] at hF)))
    apply own_code hO
    (repeat (first | (with_reducible exact hO) | (with_reducible apply Own.alloc) | (with_reducible apply Own.drew) | ((with_reducible apply Own.set_at); (focus (show _ ≤ _; omega)))))
    have hG := hF; clear hF; clear hO; intro hO
    (try simp only [World.size_alloc1, World.size_drew, Nat.reduceAdd] at hO); (try simp only [upd, updI, List.map_cons, List.map_nil, eq_self, if_true, if_false, reduceIte, Nat.add_eq_left, Nat.left_eq_add, Nat.reduceEqDiff, List.set_cons_zero, List.set_cons_succ, hG] at hO); clear hG
    refine region_own (X := fun _ => True) [] (by kernel_rfl) (hO) (trivial) (by first | exact XStab.true | exact XStab.rd | exact XStab.rdIf) ?_
    clear hO
    refine Sim.takeP (i := 0) (d := some 19) (v := ?_) rfl rfl (by kernel_rfl) (by kernel_rfl) (by kernel_rfl) (fun _ _ _ h => h) (by first | exact XStab.true | exact XStab.rd | exact XStab.rdIf) ?_ ?_
    rotate_left
    · first | refine Or.inl ⟨by rfl, fun w => ?_⟩ | (refine Or.inr ⟨by rfl, ?_⟩; with_reducible rfl)
      first | done | (go_simp; all_goals with_reducible rfl)
    try simp only [Act.put, List.setIfInBounds_toArray, List.set_cons_zero, List.set_cons_succ]
    refine Sim.takeP (i := 1) (d := some 20) (v := ?_) rfl rfl (by kernel_rfl) (by kernel_rfl) (by kernel_rfl) (fun _ _ _ h => h) (by first | exact XStab.true | exact XStab.rd | exact XStab.rdIf) ?_ ?_
    rotate_left
    · first | refine Or.inl ⟨by rfl, fun w => ?_⟩ | (refine Or.inr ⟨by rfl, ?_⟩; with_reducible rfl)
      first | done | (go_simp; all_goals with_reducible rfl)
    try simp only [Act.put, List.setIfInBounds_toArray, List.set_cons_zero, List.set_cons_succ]
    refine Sim.take (i := 2) (d := some 21) (v := ?_) rfl rfl (by kernel_rfl) (by kernel_rfl) (by kernel_rfl) (by kernel_rfl) (fun _ _ _ h => h) (by first | exact XStab.true | exact XStab.rd | exact XStab.rdIf) ?_ ?_
    rotate_left
    · first | refine Or.inl ⟨by rfl, fun w hO => ?_⟩ | (refine Or.inr ⟨by rfl, ?_⟩; with_reducible rfl)
      first | done | (have hF := hO; (try simp only [Own, Item.Holds, apartI, CellsAt, Nat.reduceAdd, Nat.zero_add, List.mem_cons, List.not_mem_nil, or_false, forall_eq_or_imp, forall_eq, ne_eq, false_imp_iff, implies_true, and_true] at hF); refine Out.same ?_; go_simp; all_goals with_reducible rfl)
    try simp only [Act.put, List.setIfInBounds_toArray, List.set_cons_zero, List.set_cons_succ]
    refine Sim.takeP (i := 3) (d := some 22) (v := ?_) rfl rfl (by kernel_rfl) (by kernel_rfl) (by kernel_rfl) (fun _ _ _ h => h) (by first | exact XStab.true | exact XStab.rd | exact XStab.rdIf) ?_ ?_
    rotate_left
    · first | refine Or.inl ⟨by rfl, fun w => ?_⟩ | (refine Or.inr ⟨by rfl, ?_⟩; with_reducible rfl)
      first | done | (go_simp; all_goals with_reducible rfl)
    try simp only [Act.put, List.setIfInBounds_toArray, List.set_cons_zero, List.set_cons_succ]
    refine Sim.takeP (i := 4) (d := some 23) (v := ?_) rfl rfl (by kernel_rfl) (by kernel_rfl) (by kernel_rfl) (fun _ _ _ h => h) (by first | exact XStab.true | exact XStab.rd | exact XStab.rdIf) ?_ ?_
    rotate_left
    · first | refine Or.inl ⟨by rfl, fun w => ?_⟩ | (refine Or.inr ⟨by rfl, ?_⟩; with_reducible rfl)
      first | done | (go_simp; all_goals with_reducible rfl)
    try simp only [Act.put, List.setIfInBounds_toArray, List.set_cons_zero, List.set_cons_succ]
    refine Sim.takeP (i := 5) (d := some 24) (v := ?_) rfl rfl (by kernel_rfl) (by kernel_rfl) (by kernel_rfl) (fun _ _ _ h => h) (by first | exact XStab.true | exact XStab.rd | exact XStab.rdIf) ?_ ?_
    rotate_left
    · first | refine Or.inl ⟨by rfl, fun w => ?_⟩ | (refine Or.inr ⟨by rfl, ?_⟩; with_reducible rfl)
      first | done | (go_simp; all_goals with_reducible rfl)
    try simp only [Act.put, List.setIfInBounds_toArray, List.set_cons_zero, List.set_cons_succ]
    refine Sim.take (i := 6) (d := some 25) (v := ?_) rfl rfl (by kernel_rfl) (by kernel_rfl) (by kernel_rfl) (by kernel_rfl) (fun _ _ _ h => h) (by first | exact XStab.true | exact XStab.rd | exact XStab.rdIf) ?_ ?_
    rotate_left
    · first | refine Or.inl ⟨by rfl, fun w hO => ?_⟩ | (refine Or.inr ⟨by rfl, ?_⟩; with_reducible rfl)
      first | done | (have hF := hO; (try simp only [Own, Item.Holds, apartI, CellsAt, Nat.reduceAdd, Nat.zero_add, List.mem_cons, List.not_mem_nil, or_false, forall_eq_or_imp, forall_eq, ne_eq, false_imp_iff, implies_true, and_true] at hF); refine Out.same ?_; go_simp; all_goals with_reducible rfl)
    try simp only [Act.put, List.setIfInBounds_toArray, List.set_cons_zero, List.set_cons_succ]
    refine Sim.takeP (i := 7) (d := some 26) (v := ?_) rfl rfl (by kernel_rfl) (by kernel_rfl) (by kernel_rfl) (fun _ _ _ h => h) (by first | exact XStab.true | exact XStab.rd | exact XStab.rdIf) ?_ ?_
    rotate_left
    · first | refine Or.inl ⟨by rfl, fun w => ?_⟩ | (refine Or.inr ⟨by rfl, ?_⟩; with_reducible rfl)
      first | done | (go_simp; all_goals with_reducible rfl)
    try simp only [Act.put, List.setIfInBounds_toArray, List.set_cons_zero, List.set_cons_succ]
    refine Sim.takeP (i := 8) (d := some 27) (v := ?_) rfl rfl (by kernel_rfl) (by kernel_rfl) (by kernel_rfl) (fun _ _ _ h => h) (by first | exact XStab.true | exact XStab.rd | exact XStab.rdIf) ?_ ?_
    rotate_left
    · first | refine Or.inl ⟨by rfl, fun w => ?_⟩ | (refine Or.inr ⟨by rfl, ?_⟩; with_reducible rfl)
      first | done | (go_simp; all_goals with_reducible rfl)
    try simp only [Act.put, List.setIfInBounds_toArray, List.set_cons_zero, List.set_cons_succ]
    refine Sim.take (i := 9) (d := some 28) (v := ?_) rfl rfl (by kernel_rfl) (by kernel_rfl) (by kernel_rfl) (by kernel_rfl) (fun _ _ _ h => h) (by first | exact XStab.true | exact XStab.rd | exact XStab.rdIf) ?_ ?_
    rotate_left
    · first | refine Or.inl ⟨by rfl, fun w hO => ?_⟩ | (refine Or.inr ⟨by rfl, ?_⟩; with_reducible rfl)
      first | done | (have hF := hO; (try simp only [Own, Item.Holds, apartI, CellsAt, Nat.reduceAdd, Nat.zero_add, List.mem_cons, List.not_mem_nil, or_false, forall_eq_or_imp, forall_eq, ne_eq, false_imp_iff, implies_true, and_true] at hF); refine Out.same ?_; go_simp; all_goals with_reducible rfl)
    try simp only [Act.put, List.setIfInBounds_toArray, List.set_cons_zero, List.set_cons_succ]
    refine Sim.take (i := 10) (d := some 29) (v := ?_) rfl rfl (by kernel_rfl) (by kernel_rfl) (by kernel_rfl) (by kernel_rfl) (fun _ _ _ h => h) (by first | exact XStab.true | exact XStab.rd | exact XStab.rdIf) ?_ ?_
    rotate_left
    · first | refine Or.inl ⟨by rfl, fun w hO => ?_⟩ | (refine Or.inr ⟨by rfl, ?_⟩; with_reducible rfl)
      first | done | (refine Out.call (f := 50) (args := ?_) ?_ ?_; rotate_left; (focus (go_simp; all_goals with_reducible rfl)); exact HK.out _)
    try simp only [Act.put, List.setIfInBounds_toArray, List.set_cons_zero, List.set_cons_succ]
    refine Sim.takeP (i := 11) (d := some 30) (v := ?_) rfl rfl (by kernel_rfl) (by kernel_rfl) (by kernel_rfl) (fun _ _ _ h => h) (by first | exact XStab.true | exact XStab.rd | exact XStab.rdIf) ?_ ?_
    rotate_left
    · first | refine Or.inl ⟨by rfl, fun w => ?_⟩ | (refine Or.inr ⟨by rfl, ?_⟩; with_reducible rfl)
      first | done | (go_simp; all_goals with_reducible rfl)
    try simp only [Act.put, List.setIfInBounds_toArray, List.set_cons_zero, List.set_cons_succ]
    refine Sim.takeP (i := 12) (d := some 4) (v := ?_) rfl rfl (by kernel_rfl) (by kernel_rfl) (by kernel_rfl) (fun _ _ _ h => h) (by first | exact XStab.true | exact XStab.rd | exact XStab.rdIf) ?_ ?_
    rotate_left
    · first | refine Or.inl ⟨by rfl, fun w => ?_⟩ | (refine Or.inr ⟨by rfl, ?_⟩; with_reducible rfl)
      first | done | (go_simp; all_goals with_reducible rfl)
    try simp only [Act.put, List.setIfInBounds_toArray, List.set_cons_zero, List.set_cons_succ]
    refine Sim.takeP (i := 13) (d := some 5) (v := ?_) rfl rfl (by kernel_rfl) (by kernel_rfl) (by kernel_rfl) (fun _ _ _ h => h) (by first | exact XStab.true | exact XStab.rd | exact XStab.rdIf) ?_ ?_
    rotate_left
    · first | refine Or.inl ⟨by rfl, fun w => ?_⟩ | (refine Or.inr ⟨by rfl, ?_⟩; with_reducible rfl)
      first | done | (go_simp; all_goals with_reducible rfl)
    try simp only [Act.put, List.setIfInBounds_toArray, List.set_cons_zero, List.set_cons_succ]
    refine Sim.takeP (i := 14) (d := some 6) (v := ?_) rfl rfl (by kernel_rfl) (by kernel_rfl) (by kernel_rfl) (fun _ _ _ h => h) (by first | exact XStab.true | exact XStab.rd | exact XStab.rdIf) ?_ ?_
    rotate_left
    · first | refine Or.inl ⟨by rfl, fun w => ?_⟩ | (refine Or.inr ⟨by rfl, ?_⟩; with_reducible rfl)
      first | done | (go_simp; all_goals with_reducible rfl)
    try simp only [Act.put, List.setIfInBounds_toArray, List.set_cons_zero, List.set_cons_succ]
    refine Sim.done (by kernel_rfl) (fun w1 hO hX => ?_) _
    (try simp only [World.size_alloc1, World.size_drew, Nat.reduceAdd] at hO); (try simp only [upd, updI, List.map_cons, List.map_nil, eq_self, if_true, if_false, reduceIte, Nat.add_eq_left, Nat.left_eq_add, Nat.reduceEqDiff, List.set_cons_zero, List.set_cons_succ] at hO)
    have hF := hO; (try simp only [Own, Item.Holds, apartI, CellsAt, Nat.reduceAdd, Nat.zero_add, List.mem_cons, List.not_mem_nil, or_false, forall_eq_or_imp, forall_eq, ne_eq, false_imp_iff, implies_true, and_true] at hF)
    go_wp2_with fail
    apply own_end hO
    (repeat (first | (with_reducible exact hO) | (with_reducible apply Own.alloc) | (with_reducible apply Own.drew) | ((with_reducible apply Own.set_at); (focus (show _ ≤ _; omega)))))
    have hG := hF; clear hF; clear hO; intro hO
    refine own_ret (v := .tuple #[.int .i64 (k / b), .int .i64 (k % b), .int .i64 (t % q)]) hO ?_ rfl (fun hO => ⟨by rw [HE.out.1, HE.out.2.1, HE.out.2.2], hO.base⟩)
    clear hO; intro w1 hO
    (try simp only [World.size_alloc1, World.size_drew, Nat.reduceAdd] at hO); (try simp only [upd, updI, List.map_cons, List.map_nil, eq_self, if_true, if_false, reduceIte, Nat.add_eq_left, Nat.left_eq_add, Nat.reduceEqDiff, List.set_cons_zero, List.set_cons_succ, hG] at hO); clear hG
    have hF := hO; (try simp only [Own, Item.Holds, apartI, CellsAt, Nat.reduceAdd, Nat.zero_add, List.mem_cons, List.not_mem_nil, or_false, forall_eq_or_imp, forall_eq, ne_eq, false_imp_iff, implies_true, and_true] at hF)
    simp [results, Tryd.results24, go_sem, hF]
  · have HE := hid (show beX b u t = -1 ∧ beY b u t = -1 ∧ beW b u t = -1 by simp [beX, beY, beW, beO, hm, h0])
    have HM := hid (meI_is hT hm)
    have h0' : t < 0 := by omega
    clear hm hT h0
    go_enter Tryd.func24, Tryd.ntmps24
    go_wp2_with (go_at_call 16; apply own_at hO; (repeat (first | (with_reducible exact hO) | (with_reducible apply Own.alloc) | (with_reducible apply Own.drew) | ((with_reducible apply Own.set_at); (focus (show _ ≤ _; omega))))); have hG := hF; clear hF; clear hO; intro hO; refine own_call hO (fun hB => HM.out _ hB) ?_; clear hO; intro w1 hO; (try simp only [World.size_alloc1, World.size_drew, Nat.reduceAdd] at hO); (try simp only [upd, updI, List.map_cons, List.map_nil, eq_self, if_true, if_false, reduceIte, Nat.add_eq_left, Nat.left_eq_add, Nat.reduceEqDiff, List.set_cons_zero, List.set_cons_succ, hG] at hO); clear hG; have hF := hO; (try simp only [Own, Item.Holds, apartI, CellsAt, Nat.reduceAdd, Nat.zero_add, List.mem_cons, List.not_mem_nil, or_false, forall_eq_or_imp, forall_eq, ne_eq, false_imp_iff, implies_true, and_true] at hF))
    apply own_end hO
    (repeat (first | (with_reducible exact hO) | (with_reducible apply Own.alloc) | (with_reducible apply Own.drew) | ((with_reducible apply Own.set_at); (focus (show _ ≤ _; omega)))))
    have hG := hF; clear hF; clear hO; intro hO
    refine own_ret (v := .tuple #[.int .i64 (-1), .int .i64 (-1), .int .i64 (-1)]) hO ?_ rfl (fun hO => ⟨by rw [HE.out.1, HE.out.2.1, HE.out.2.2], hO.base⟩)
    clear hO; intro w1 hO
    (try simp only [World.size_alloc1, World.size_drew, Nat.reduceAdd] at hO); (try simp only [upd, updI, List.map_cons, List.map_nil, eq_self, if_true, if_false, reduceIte, Nat.add_eq_left, Nat.left_eq_add, Nat.reduceEqDiff, List.set_cons_zero, List.set_cons_succ, hG] at hO); clear hG
    have hF := hO; (try simp only [Own, Item.Holds, apartI, CellsAt, Nat.reduceAdd, Nat.zero_add, List.mem_cons, List.not_mem_nil, or_false, forall_eq_or_imp, forall_eq, ne_eq, false_imp_iff, implies_true, and_true] at hF)
    simp [results, Tryd.results24, go_sem, hF]

theorem meI_C {w : World} (hT : TabB w) : CMe 16 w := fun b u W hW _ _ => meI_any b u W (hT.below hW)

theorem btI_C {w : World} (hT : TabB w) : CBt 20 w := fun b u W hW _ _ => btI_any b u W (hT.below hW)

theorem beI_C {w : World} (hT : TabB w) : CBe 24 w := fun b u t W hW _ _ h => beI_any b u t W (hT.below hW) h.2

/- Chapter 6 in the program: the number of bars. -/
open Go.RowKit

theorem vtI_is {va : Value} {v : List Nt} {w : World} {z : Int} (ha : SlAt w va v.length 6 (vcC v)) (hn : v.length ≤ 1048576) (h : vtZ v = z) (W : World) (hW : Below w.heap.size w W) :
    Calls Tryd.prog 32 #[va] W fun e w' => e = .returned (.int .i64 z) ∧ Below W.heap.size W w' := by
  subst h
  exact vtI_any va v W (ha.below hW) hn

set_option maxHeartbeats 4000000 in
theorem bcI_any (va : Value) (v : List Nt) (b u : Int) (w : World) (hTB : TabB w) (ha : SlAt w va v.length 6 (vcC v)) (hn : v.length ≤ 1048576) :
    Calls Tryd.prog 34 #[va, .agg #[.int .i64 b, .int .i64 u]] w fun e w' => e = .returned (.int .i64 (bcZ v b u)) ∧ Below w.heap.size w w' := by
  have hO := Own.start w
  have hF := True.intro
  cases hv : voB v
  · have HE := hid (show bcZ v b u = -1 by simp [bcZ, hv])
    have HV := hid (voI_is rfl ha hn hv)
    clear ha hv hTB
    go_enter Tryd.func34, Tryd.ntmps34
    go_wp2_with (go_at_call 31; apply own_at hO; (repeat (first | (with_reducible exact hO) | (with_reducible apply Own.alloc) | (with_reducible apply Own.drew) | ((with_reducible apply Own.set_at); (focus (show _ ≤ _; omega))))); have hG := hF; clear hF; clear hO; intro hO; refine own_call hO (fun hB => HV.out _ hB) ?_; clear hO; intro w1 hO; (try simp only [World.size_alloc1, World.size_drew, Nat.reduceAdd] at hO); (try simp only [upd, updI, List.map_cons, List.map_nil, eq_self, if_true, if_false, reduceIte, Nat.add_eq_left, Nat.left_eq_add, Nat.reduceEqDiff, List.set_cons_zero, List.set_cons_succ, hG] at hO); clear hG; have hF := hO; (try simp only [Own, Item.Holds, apartI, CellsAt, Nat.reduceAdd, Nat.zero_add, List.mem_cons, List.not_mem_nil, or_false, forall_eq_or_imp, forall_eq, ne_eq, false_imp_iff, implies_true, and_true] at hF))
    go_ret
    exact ⟨ret_int HE.out.symm, Own.base (by (repeat (first | (with_reducible exact hO) | (with_reducible apply Own.alloc) | (with_reducible apply Own.drew) | ((with_reducible apply Own.set_at); (focus (show _ ≤ _; omega))))))⟩
  cases hm : meB b u
  · have HE := hid (show bcZ v b u = -1 by simp [bcZ, hm])
    have HV := hid (voI_is rfl ha hn hv)
    have HM := hid (meI_is hTB hm)
    clear ha hv hm hTB
    go_enter Tryd.func34, Tryd.ntmps34
    go_wp2_with (first | (go_at_call 31; apply own_at hO; (repeat (first | (with_reducible exact hO) | (with_reducible apply Own.alloc) | (with_reducible apply Own.drew) | ((with_reducible apply Own.set_at); (focus (show _ ≤ _; omega))))); have hG := hF; clear hF; clear hO; intro hO; refine own_call hO (fun hB => HV.out _ hB) ?_; clear hO; intro w1 hO; (try simp only [World.size_alloc1, World.size_drew, Nat.reduceAdd] at hO); (try simp only [upd, updI, List.map_cons, List.map_nil, eq_self, if_true, if_false, reduceIte, Nat.add_eq_left, Nat.left_eq_add, Nat.reduceEqDiff, List.set_cons_zero, List.set_cons_succ, hG] at hO); clear hG; have hF := hO; (try simp only [Own, Item.Holds, apartI, CellsAt, Nat.reduceAdd, Nat.zero_add, List.mem_cons, List.not_mem_nil, or_false, forall_eq_or_imp, forall_eq, ne_eq, false_imp_iff, implies_true, and_true] at hF)) | (go_at_call 16; apply own_at hO; (repeat (first | (with_reducible exact hO) | (with_reducible apply Own.alloc) | (with_reducible apply Own.drew) | ((with_reducible apply Own.set_at); (focus (show _ ≤ _; omega))))); have hG := hF; clear hF; clear hO; intro hO; refine own_call hO (fun hB => HM.out _ hB) ?_; clear hO; intro w1 hO; (try simp only [World.size_alloc1, World.size_drew, Nat.reduceAdd] at hO); (try simp only [upd, updI, List.map_cons, List.map_nil, eq_self, if_true, if_false, reduceIte, Nat.add_eq_left, Nat.left_eq_add, Nat.reduceEqDiff, List.set_cons_zero, List.set_cons_succ, hG] at hO); clear hG; have hF := hO; (try simp only [Own, Item.Holds, apartI, CellsAt, Nat.reduceAdd, Nat.zero_add, List.mem_cons, List.not_mem_nil, or_false, forall_eq_or_imp, forall_eq, ne_eq, false_imp_iff, implies_true, and_true] at hF)))
    go_ret
    exact ⟨ret_int HE.out.symm, Own.base (by (repeat (first | (with_reducible exact hO) | (with_reducible apply Own.alloc) | (with_reducible apply Own.drew) | ((with_reducible apply Own.set_at); (focus (show _ ≤ _; omega))))))⟩
  · have HE := hid (show bcZ v b u = (sumT v + baZ b u - 1) / baZ b u by simp [bcZ, hv, hm, bcN])
    have HV := hid (voI_is rfl ha hn hv)
    have HM := hid (meI_is hTB hm)
    have HB := hid (btI_is hTB (show btZ b u = baZ b u by unfold btZ; rw [hm]; rfl))
    have HT := hid (vtI_is ha hn (show vtZ v = sumT v by unfold vtZ; rw [hv]; rfl))
    have hs := sum_bd hv
    have hb := ba_bd hm
    have hc := bc_bd hv hm
    have hc2 : (sumT v + baZ b u - 1) / baZ b u = bcN v b u := rfl
    rw [← hc2] at hc
    obtain ⟨p, hp⟩ : ∃ p, baZ b u = p := ⟨_, rfl⟩
    obtain ⟨s, hs'⟩ : ∃ s, sumT v = s := ⟨_, rfl⟩
    rw [hp, hs'] at HE hc
    rw [hp] at HB hb
    rw [hs'] at HT hs
    have p0 : ¬ p = 0 := by omega
    have w1 : IntKind.i64.wrap (s + p) = s + p := IntWalk.i64_in _ (by omega)
    have w2 : IntKind.i64.wrap (s + p - 1) = s + p - 1 := IntWalk.i64_in _ (by omega)
    have f1 : (s + p - 1).tdiv p = (s + p - 1) / p := Int.tdiv_eq_ediv_of_nonneg (by omega)
    have g1 : IntKind.i64.wrap ((s + p - 1) / p) = (s + p - 1) / p := IntWalk.i64_in _ (by omega)
    clear ha hv hm hp hs' hc hc2 hTB
    go_enter Tryd.func34, Tryd.ntmps34
    go_wp2_with (first | (go_at_call 31; apply own_at hO; (repeat (first | (with_reducible exact hO) | (with_reducible apply Own.alloc) | (with_reducible apply Own.drew) | ((with_reducible apply Own.set_at); (focus (show _ ≤ _; omega))))); have hG := hF; clear hF; clear hO; intro hO; refine own_call hO (fun hB => HV.out _ hB) ?_; clear hO; intro w1 hO; (try simp only [World.size_alloc1, World.size_drew, Nat.reduceAdd] at hO); (try simp only [upd, updI, List.map_cons, List.map_nil, eq_self, if_true, if_false, reduceIte, Nat.add_eq_left, Nat.left_eq_add, Nat.reduceEqDiff, List.set_cons_zero, List.set_cons_succ, hG] at hO); clear hG; have hF := hO; (try simp only [Own, Item.Holds, apartI, CellsAt, Nat.reduceAdd, Nat.zero_add, List.mem_cons, List.not_mem_nil, or_false, forall_eq_or_imp, forall_eq, ne_eq, false_imp_iff, implies_true, and_true] at hF)) | (go_at_call 16; apply own_at hO; (repeat (first | (with_reducible exact hO) | (with_reducible apply Own.alloc) | (with_reducible apply Own.drew) | ((with_reducible apply Own.set_at); (focus (show _ ≤ _; omega))))); have hG := hF; clear hF; clear hO; intro hO; refine own_call hO (fun hB => HM.out _ hB) ?_; clear hO; intro w1 hO; (try simp only [World.size_alloc1, World.size_drew, Nat.reduceAdd] at hO); (try simp only [upd, updI, List.map_cons, List.map_nil, eq_self, if_true, if_false, reduceIte, Nat.add_eq_left, Nat.left_eq_add, Nat.reduceEqDiff, List.set_cons_zero, List.set_cons_succ, hG] at hO); clear hG; have hF := hO; (try simp only [Own, Item.Holds, apartI, CellsAt, Nat.reduceAdd, Nat.zero_add, List.mem_cons, List.not_mem_nil, or_false, forall_eq_or_imp, forall_eq, ne_eq, false_imp_iff, implies_true, and_true] at hF)) | (go_at_call 20; apply own_at hO; (repeat (first | (with_reducible exact hO) | (with_reducible apply Own.alloc) | (with_reducible apply Own.drew) | ((with_reducible apply Own.set_at); (focus (show _ ≤ _; omega))))); have hG := hF; clear hF; clear hO; intro hO; refine own_call hO (fun hB => HB.out _ hB) ?_; clear hO; intro w1 hO; (try simp only [World.size_alloc1, World.size_drew, Nat.reduceAdd] at hO); (try simp only [upd, updI, List.map_cons, List.map_nil, eq_self, if_true, if_false, reduceIte, Nat.add_eq_left, Nat.left_eq_add, Nat.reduceEqDiff, List.set_cons_zero, List.set_cons_succ, hG] at hO); clear hG; have hF := hO; (try simp only [Own, Item.Holds, apartI, CellsAt, Nat.reduceAdd, Nat.zero_add, List.mem_cons, List.not_mem_nil, or_false, forall_eq_or_imp, forall_eq, ne_eq, false_imp_iff, implies_true, and_true] at hF)) | (go_at_call 32; apply own_at hO; (repeat (first | (with_reducible exact hO) | (with_reducible apply Own.alloc) | (with_reducible apply Own.drew) | ((with_reducible apply Own.set_at); (focus (show _ ≤ _; omega))))); have hG := hF; clear hF; clear hO; intro hO; refine own_call hO (fun hB => HT.out _ hB) ?_; clear hO; intro w1 hO; (try simp only [World.size_alloc1, World.size_drew, Nat.reduceAdd] at hO); (try simp only [upd, updI, List.map_cons, List.map_nil, eq_self, if_true, if_false, reduceIte, Nat.add_eq_left, Nat.left_eq_add, Nat.reduceEqDiff, List.set_cons_zero, List.set_cons_succ, hG] at hO); clear hG; have hF := hO; (try simp only [Own, Item.Holds, apartI, CellsAt, Nat.reduceAdd, Nat.zero_add, List.mem_cons, List.not_mem_nil, or_false, forall_eq_or_imp, forall_eq, ne_eq, false_imp_iff, implies_true, and_true] at hF)))
    go_ret
    exact ⟨ret_int HE.out.symm, Own.base (by (repeat (first | (with_reducible exact hO) | (with_reducible apply Own.alloc) | (with_reducible apply Own.drew) | ((with_reducible apply Own.set_at); (focus (show _ ≤ _; omega))))))⟩
theorem bcI_is {va : Value} {v : List Nt} {b u z : Int} {w : World} (hTB : TabB w) (ha : SlAt w va v.length 6 (vcC v)) (hn : v.length ≤ 1048576) (h : bcZ v b u = z) (W : World) (hW : Below w.heap.size w W) :
    Calls Tryd.prog 34 #[va, .agg #[.int .i64 b, .int .i64 u]] W fun e w' => e = .returned (.int .i64 z) ∧ Below W.heap.size W w' := by
  subst h
  exact bcI_any va v b u W (hTB.below hW) (ha.below hW) hn
theorem bcI_C {w : World} (hT : TabB w) : CBc 34 w := fun va v b u W hW hs hn _ _ => bcI_any va v b u W (hT.below hW) hs hn
end Go.Proofs.YtcifmpjefhichaaDoor
