/- Chapter 6 in the model: meters; the ticks of a bar; the beat of a tick; the number of bars. -/
import Derived.Test.YtcifmpjefhichaaDoorWalks5T
import Derived.Test.YtcifmpjefhichaaDoorPure6
import Derived.Test.YtcifmpjefhichaaDoorOwnMake
namespace Go.Proofs.YtcifmpjefhichaaDoor
set_option linter.unusedSimpArgs false
set_option linter.unusedVariables false
open Go.RowKit

set_option maxHeartbeats 4000000 in
theorem meS_any (b u : Int) (w : World) :
    Calls Tryd.prog 17 #[.agg #[.int .i64 b, .int .i64 u]] w fun e w' => e = .returned (.bool (meB b u)) ∧ Below w.heap.size w w' := by
  have hO := Own.start w
  have hF := True.intro
  go_enter Tryd.func17, Tryd.ntmps17
  go_wp2_with (go_at_call 48; refine (in_any _ _ _ _).mono ?_; rintro e w1 ⟨rfl, rfl⟩)
  all_goals go_ret
  all_goals exact ⟨ret_bool (by simp only [meB]; simp_all), Own.base (by (repeat (first | (with_reducible exact hO) | (with_reducible apply Own.alloc) | (with_reducible apply Own.drew) | ((with_reducible apply Own.set_at); (focus (show _ ≤ _; omega))))))⟩
theorem meS_is {b u : Int} {o : Bool} (h : meB b u = o) (w : World) :
    Calls Tryd.prog 17 #[.agg #[.int .i64 b, .int .i64 u]] w fun e w' => e = .returned (.bool o) ∧ Below w.heap.size w w' := by
  subst h; exact meS_any b u w

theorem me_div {b u : Int} (h : meB b u = true) : (b * 192).tdiv u = baZ b u := by
  have := (meB_iff.1 h).1
  exact Int.tdiv_eq_ediv_of_nonneg (by omega)
theorem me_beat2 {b u : Int} (_ : meB b u = true) : (192 : Int).tdiv u = beZ u := Int.tdiv_eq_ediv_of_nonneg (by omega)

set_option maxHeartbeats 4000000 in
theorem btS_any (b u : Int) (w : World) :
    Calls Tryd.prog 21 #[.agg #[.int .i64 b, .int .i64 u]] w fun e w' => e = .returned (.int .i64 (btZ b u)) ∧ Below w.heap.size w w' := by
  have hO := Own.start w
  have hF := True.intro
  cases hm : meB b u
  · have HE := hid (show btZ b u = -1 by unfold btZ; rw [hm]; rfl)
    have HM := hid (meS_is hm)
    clear hm
    go_enter Tryd.func21, Tryd.ntmps21
    go_wp2_with (go_at_call 17; apply own_at hO; (repeat (first | (with_reducible exact hO) | (with_reducible apply Own.alloc) | (with_reducible apply Own.drew) | ((with_reducible apply Own.set_at); (focus (show _ ≤ _; omega))))); have hG := hF; clear hF; clear hO; intro hO; refine own_call hO (fun hB => HM.out _) ?_; clear hO; intro w1 hO; (try simp only [World.size_alloc1, World.size_drew, Nat.reduceAdd] at hO); (try simp only [upd, updI, List.map_cons, List.map_nil, eq_self, if_true, if_false, reduceIte, Nat.add_eq_left, Nat.left_eq_add, Nat.reduceEqDiff, List.set_cons_zero, List.set_cons_succ, hG] at hO); clear hG; have hF := hO; (try simp only [Own, Item.Holds, apartI, CellsAt, Nat.reduceAdd, Nat.zero_add, List.mem_cons, List.not_mem_nil, or_false, forall_eq_or_imp, forall_eq, ne_eq, false_imp_iff, implies_true, and_true] at hF))
    go_ret
    exact ⟨ret_int HE.out.symm, Own.base (by (repeat (first | (with_reducible exact hO) | (with_reducible apply Own.alloc) | (with_reducible apply Own.drew) | ((with_reducible apply Own.set_at); (focus (show _ ≤ _; omega))))))⟩
  · have HE := hid (show btZ b u = baZ b u by unfold btZ; rw [hm]; rfl)
    have HM := hid (meS_is hm)
    have hb := ba_bd hm
    have h1 := (meB_iff.1 hm).1
    have w1 : IntKind.i64.wrap (b * 192) = b * 192 := IntWalk.i64_in _ (by omega)
    have e1 := me_div hm
    have w2 : IntKind.i64.wrap (baZ b u) = baZ b u := IntWalk.i64_in _ (by omega)
    have u0 : ¬ u = 0 := by have := (meB_iff.1 hm).2; omega
    clear hm
    go_enter Tryd.func21, Tryd.ntmps21
    go_wp2_with (go_at_call 17; apply own_at hO; (repeat (first | (with_reducible exact hO) | (with_reducible apply Own.alloc) | (with_reducible apply Own.drew) | ((with_reducible apply Own.set_at); (focus (show _ ≤ _; omega))))); have hG := hF; clear hF; clear hO; intro hO; refine own_call hO (fun hB => HM.out _) ?_; clear hO; intro w1 hO; (try simp only [World.size_alloc1, World.size_drew, Nat.reduceAdd] at hO); (try simp only [upd, updI, List.map_cons, List.map_nil, eq_self, if_true, if_false, reduceIte, Nat.add_eq_left, Nat.left_eq_add, Nat.reduceEqDiff, List.set_cons_zero, List.set_cons_succ, hG] at hO); clear hG; have hF := hO; (try simp only [Own, Item.Holds, apartI, CellsAt, Nat.reduceAdd, Nat.zero_add, List.mem_cons, List.not_mem_nil, or_false, forall_eq_or_imp, forall_eq, ne_eq, false_imp_iff, implies_true, and_true] at hF))
    go_ret
    exact ⟨ret_int HE.out.symm, Own.base (by (repeat (first | (with_reducible exact hO) | (with_reducible apply Own.alloc) | (with_reducible apply Own.drew) | ((with_reducible apply Own.set_at); (focus (show _ ≤ _; omega))))))⟩
theorem btS_is {b u z : Int} (h : btZ b u = z) (w : World) :
    Calls Tryd.prog 21 #[.agg #[.int .i64 b, .int .i64 u]] w fun e w' => e = .returned (.int .i64 z) ∧ Below w.heap.size w w' := by
  subst h; exact btS_any b u w

/-- the bar of a tick, the beat in it, the ticks that are over. -/
def beO (b u t : Int) : Bool := meB b u && decide (0 ≤ t)
def beX (b u t : Int) : Int := if beO b u t then t / baZ b u else -1
def beY (b u t : Int) : Int := if beO b u t then t % baZ b u / beZ u else -1
def beW (b u t : Int) : Int := if beO b u t then t % beZ u else -1

set_option maxHeartbeats 4000000 in
theorem beS_any (b u t : Int) (w : World) (ht : t ≤ 9223372036854775807) :
    Calls Tryd.prog 25 #[.agg #[.int .i64 b, .int .i64 u], .int .i64 t] w fun e w' => e = .returned (.tuple #[.int .i64 (beX b u t), .int .i64 (beY b u t), .int .i64 (beW b u t)]) ∧ Below w.heap.size w w' := by
  have hO := Own.start w
  have hF := True.intro
  cases hm : meB b u
  · have HE := hid (show beX b u t = -1 ∧ beY b u t = -1 ∧ beW b u t = -1 by simp [beX, beY, beW, beO, hm])
    have HM := hid (meS_is hm)
    clear hm
    go_enter Tryd.func25, Tryd.ntmps25
    go_wp2_with (go_at_call 17; apply own_at hO; (repeat (first | (with_reducible exact hO) | (with_reducible apply Own.alloc) | (with_reducible apply Own.drew) | ((with_reducible apply Own.set_at); (focus (show _ ≤ _; omega))))); have hG := hF; clear hF; clear hO; intro hO; refine own_call hO (fun hB => HM.out _) ?_; clear hO; intro w1 hO; (try simp only [World.size_alloc1, World.size_drew, Nat.reduceAdd] at hO); (try simp only [upd, updI, List.map_cons, List.map_nil, eq_self, if_true, if_false, reduceIte, Nat.add_eq_left, Nat.left_eq_add, Nat.reduceEqDiff, List.set_cons_zero, List.set_cons_succ, hG] at hO); clear hG; have hF := hO; (try simp only [Own, Item.Holds, apartI, CellsAt, Nat.reduceAdd, Nat.zero_add, List.mem_cons, List.not_mem_nil, or_false, forall_eq_or_imp, forall_eq, ne_eq, false_imp_iff, implies_true, and_true] at hF))
    apply own_end hO
    (repeat (first | (with_reducible exact hO) | (with_reducible apply Own.alloc) | (with_reducible apply Own.drew) | ((with_reducible apply Own.set_at); (focus (show _ ≤ _; omega)))))
    have hG := hF; clear hF; clear hO; intro hO
    refine own_ret (v := .tuple #[.int .i64 (-1), .int .i64 (-1), .int .i64 (-1)]) hO ?_ rfl (fun hO => ⟨by rw [HE.out.1, HE.out.2.1, HE.out.2.2], hO.base⟩)
    clear hO; intro w1 hO
    (try simp only [World.size_alloc1, World.size_drew, Nat.reduceAdd] at hO); (try simp only [upd, updI, List.map_cons, List.map_nil, eq_self, if_true, if_false, reduceIte, Nat.add_eq_left, Nat.left_eq_add, Nat.reduceEqDiff, List.set_cons_zero, List.set_cons_succ, hG] at hO); clear hG
    have hF := hO; (try simp only [Own, Item.Holds, apartI, CellsAt, Nat.reduceAdd, Nat.zero_add, List.mem_cons, List.not_mem_nil, or_false, forall_eq_or_imp, forall_eq, ne_eq, false_imp_iff, implies_true, and_true] at hF)
    simp [results, Tryd.results25, go_sem, hF]
  by_cases h0 : 0 ≤ t
  · have HE := hid (show beX b u t = t / baZ b u ∧ beY b u t = t % baZ b u / beZ u ∧ beW b u t = t % beZ u by simp [beX, beY, beW, beO, hm, h0])
    have HM := hid (meS_is hm)
    have hb := ba_bd hm
    have hc := be_bd hm
    have h1 := (meB_iff.1 hm).1
    have w1 : IntKind.i64.wrap (b * 192) = b * 192 := IntWalk.i64_in _ (by omega)
    have e1 := me_div hm
    have e2 := me_beat2 hm
    have w2 : IntKind.i64.wrap (baZ b u) = baZ b u := IntWalk.i64_in _ (by omega)
    have w3 : IntKind.i64.wrap (beZ u) = beZ u := IntWalk.i64_in _ (by omega)
    have u0 : ¬ u = 0 := by have := (meB_iff.1 hm).2; omega
    have h0' : ¬ t < 0 := by omega
    obtain ⟨p, hp⟩ : ∃ p, baZ b u = p := ⟨_, rfl⟩
    obtain ⟨q, hq⟩ : ∃ q, beZ u = q := ⟨_, rfl⟩
    rw [hp] at HE hb e1 w2
    rw [hq] at HE hc e2 w3
    have p0 : ¬ p = 0 := by omega
    have q0 : ¬ q = 0 := by omega
    have m0 := Int.emod_nonneg t (show p ≠ 0 by omega)
    have m1 := Int.emod_lt_of_pos t (show 0 < p by omega)
    have m2 := Int.emod_nonneg t (show q ≠ 0 by omega)
    have m3 := Int.emod_lt_of_pos t (show 0 < q by omega)
    have d0 := Int.ediv_nonneg h0 (show 0 ≤ p by omega)
    have d1 := Int.ediv_le_self p h0
    have d2 := Int.ediv_nonneg m0 (show 0 ≤ q by omega)
    have d3 := Int.ediv_le_self q m0
    have f1 : t.tdiv p = t / p := Int.tdiv_eq_ediv_of_nonneg h0
    have f2 : t.tmod p = t % p := Int.tmod_eq_emod_of_nonneg h0
    have f3 : (t % p).tdiv q = t % p / q := Int.tdiv_eq_ediv_of_nonneg m0
    have f4 : t.tmod q = t % q := Int.tmod_eq_emod_of_nonneg h0
    have g1 : IntKind.i64.wrap (t / p) = t / p := IntWalk.i64_in _ (by omega)
    have g2 : IntKind.i64.wrap (t % p) = t % p := IntWalk.i64_in _ (by omega)
    have g3 : IntKind.i64.wrap (t % p / q) = t % p / q := IntWalk.i64_in _ (by omega)
    have g4 : IntKind.i64.wrap (t % q) = t % q := IntWalk.i64_in _ (by omega)
    clear hm hp hq m0 m1 m2 m3 d0 d1 d2 d3 ht h0
    go_enter Tryd.func25, Tryd.ntmps25
    go_wp2_with (go_at_call 17; apply own_at hO; (repeat (first | (with_reducible exact hO) | (with_reducible apply Own.alloc) | (with_reducible apply Own.drew) | ((with_reducible apply Own.set_at); (focus (show _ ≤ _; omega))))); have hG := hF; clear hF; clear hO; intro hO; refine own_call hO (fun hB => HM.out _) ?_; clear hO; intro w1 hO; (try simp only [World.size_alloc1, World.size_drew, Nat.reduceAdd] at hO); (try simp only [upd, updI, List.map_cons, List.map_nil, eq_self, if_true, if_false, reduceIte, Nat.add_eq_left, Nat.left_eq_add, Nat.reduceEqDiff, List.set_cons_zero, List.set_cons_succ, hG] at hO); clear hG; have hF := hO; (try simp only [Own, Item.Holds, apartI, CellsAt, Nat.reduceAdd, Nat.zero_add, List.mem_cons, List.not_mem_nil, or_false, forall_eq_or_imp, forall_eq, ne_eq, false_imp_iff, implies_true, and_true] at hF))
    apply own_code hO
    (repeat (first | (with_reducible exact hO) | (with_reducible apply Own.alloc) | (with_reducible apply Own.drew) | ((with_reducible apply Own.set_at); (focus (show _ ≤ _; omega)))))
    have hG := hF; clear hF; clear hO; intro hO
    (try simp only [World.size_alloc1, World.size_drew, Nat.reduceAdd] at hO); (try simp only [upd, updI, List.map_cons, List.map_nil, eq_self, if_true, if_false, reduceIte, Nat.add_eq_left, Nat.left_eq_add, Nat.reduceEqDiff, List.set_cons_zero, List.set_cons_succ, hG] at hO); clear hG
    refine region_own (X := fun _ => True) [] (by kernel_rfl) (hO) (trivial) (by first | exact XStab.true | exact XStab.rd | exact XStab.rdIf) ?_
    clear hO
    refine Sim.takeP (i := 0) (d := some 25) (v := ?_) rfl rfl (by kernel_rfl) (by kernel_rfl) (by kernel_rfl) (fun _ _ _ h => h) (by first | exact XStab.true | exact XStab.rd | exact XStab.rdIf) ?_ ?_
    rotate_left
    · first | refine Or.inl ⟨by rfl, fun w => ?_⟩ | (refine Or.inr ⟨by rfl, ?_⟩; with_reducible rfl)
      first | done | (go_simp; all_goals with_reducible rfl)
    try simp only [Act.put, List.setIfInBounds_toArray, List.set_cons_zero, List.set_cons_succ]
    refine Sim.takeP (i := 1) (d := some 26) (v := ?_) rfl rfl (by kernel_rfl) (by kernel_rfl) (by kernel_rfl) (fun _ _ _ h => h) (by first | exact XStab.true | exact XStab.rd | exact XStab.rdIf) ?_ ?_
    rotate_left
    · first | refine Or.inl ⟨by rfl, fun w => ?_⟩ | (refine Or.inr ⟨by rfl, ?_⟩; with_reducible rfl)
      first | done | (go_simp; all_goals with_reducible rfl)
    try simp only [Act.put, List.setIfInBounds_toArray, List.set_cons_zero, List.set_cons_succ]
    refine Sim.takeP (i := 2) (d := some 27) (v := ?_) rfl rfl (by kernel_rfl) (by kernel_rfl) (by kernel_rfl) (fun _ _ _ h => h) (by first | exact XStab.true | exact XStab.rd | exact XStab.rdIf) ?_ ?_
    rotate_left
    · first | refine Or.inl ⟨by rfl, fun w => ?_⟩ | (refine Or.inr ⟨by rfl, ?_⟩; with_reducible rfl)
      first | done | (go_simp; all_goals with_reducible rfl)
    try simp only [Act.put, List.setIfInBounds_toArray, List.set_cons_zero, List.set_cons_succ]
    refine Sim.takeP (i := 3) (d := some 28) (v := ?_) rfl rfl (by kernel_rfl) (by kernel_rfl) (by kernel_rfl) (fun _ _ _ h => h) (by first | exact XStab.true | exact XStab.rd | exact XStab.rdIf) ?_ ?_
    rotate_left
    · first | refine Or.inl ⟨by rfl, fun w => ?_⟩ | (refine Or.inr ⟨by rfl, ?_⟩; with_reducible rfl)
      first | done | (go_simp; all_goals with_reducible rfl)
    try simp only [Act.put, List.setIfInBounds_toArray, List.set_cons_zero, List.set_cons_succ]
    refine Sim.takeP (i := 4) (d := some 29) (v := ?_) rfl rfl (by kernel_rfl) (by kernel_rfl) (by kernel_rfl) (fun _ _ _ h => h) (by first | exact XStab.true | exact XStab.rd | exact XStab.rdIf) ?_ ?_
    rotate_left
    · first | refine Or.inl ⟨by rfl, fun w => ?_⟩ | (refine Or.inr ⟨by rfl, ?_⟩; with_reducible rfl)
      first | done | (go_simp; all_goals with_reducible rfl)
    try simp only [Act.put, List.setIfInBounds_toArray, List.set_cons_zero, List.set_cons_succ]
    refine Sim.takeP (i := 5) (d := some 30) (v := ?_) rfl rfl (by kernel_rfl) (by kernel_rfl) (by kernel_rfl) (fun _ _ _ h => h) (by first | exact XStab.true | exact XStab.rd | exact XStab.rdIf) ?_ ?_
    rotate_left
    · first | refine Or.inl ⟨by rfl, fun w => ?_⟩ | (refine Or.inr ⟨by rfl, ?_⟩; with_reducible rfl)
      first | done | (go_simp; all_goals with_reducible rfl)
    try simp only [Act.put, List.setIfInBounds_toArray, List.set_cons_zero, List.set_cons_succ]
    refine Sim.takeP (i := 6) (d := some 31) (v := ?_) rfl rfl (by kernel_rfl) (by kernel_rfl) (by kernel_rfl) (fun _ _ _ h => h) (by first | exact XStab.true | exact XStab.rd | exact XStab.rdIf) ?_ ?_
    rotate_left
    · first | refine Or.inl ⟨by rfl, fun w => ?_⟩ | (refine Or.inr ⟨by rfl, ?_⟩; with_reducible rfl)
      first | done | (go_simp; all_goals with_reducible rfl)
    try simp only [Act.put, List.setIfInBounds_toArray, List.set_cons_zero, List.set_cons_succ]
    refine Sim.takeP (i := 7) (d := some 32) (v := ?_) rfl rfl (by kernel_rfl) (by kernel_rfl) (by kernel_rfl) (fun _ _ _ h => h) (by first | exact XStab.true | exact XStab.rd | exact XStab.rdIf) ?_ ?_
    rotate_left
    · first | refine Or.inl ⟨by rfl, fun w => ?_⟩ | (refine Or.inr ⟨by rfl, ?_⟩; with_reducible rfl)
      first | done | (go_simp; all_goals with_reducible rfl)
    try simp only [Act.put, List.setIfInBounds_toArray, List.set_cons_zero, List.set_cons_succ]
    refine Sim.takeP (i := 8) (d := some 33) (v := ?_) rfl rfl (by kernel_rfl) (by kernel_rfl) (by kernel_rfl) (fun _ _ _ h => h) (by first | exact XStab.true | exact XStab.rd | exact XStab.rdIf) ?_ ?_
    rotate_left
    · first | refine Or.inl ⟨by rfl, fun w => ?_⟩ | (refine Or.inr ⟨by rfl, ?_⟩; with_reducible rfl)
      first | done | (go_simp; all_goals with_reducible rfl)
    try simp only [Act.put, List.setIfInBounds_toArray, List.set_cons_zero, List.set_cons_succ]
    refine Sim.takeP (i := 9) (d := some 34) (v := ?_) rfl rfl (by kernel_rfl) (by kernel_rfl) (by kernel_rfl) (fun _ _ _ h => h) (by first | exact XStab.true | exact XStab.rd | exact XStab.rdIf) ?_ ?_
    rotate_left
    · first | refine Or.inl ⟨by rfl, fun w => ?_⟩ | (refine Or.inr ⟨by rfl, ?_⟩; with_reducible rfl)
      first | done | (go_simp; all_goals with_reducible rfl)
    try simp only [Act.put, List.setIfInBounds_toArray, List.set_cons_zero, List.set_cons_succ]
    refine Sim.takeP (i := 10) (d := some 35) (v := ?_) rfl rfl (by kernel_rfl) (by kernel_rfl) (by kernel_rfl) (fun _ _ _ h => h) (by first | exact XStab.true | exact XStab.rd | exact XStab.rdIf) ?_ ?_
    rotate_left
    · first | refine Or.inl ⟨by rfl, fun w => ?_⟩ | (refine Or.inr ⟨by rfl, ?_⟩; with_reducible rfl)
      first | done | (go_simp; all_goals with_reducible rfl)
    try simp only [Act.put, List.setIfInBounds_toArray, List.set_cons_zero, List.set_cons_succ]
    refine Sim.takeP (i := 11) (d := some 4) (v := ?_) rfl rfl (by kernel_rfl) (by kernel_rfl) (by kernel_rfl) (fun _ _ _ h => h) (by first | exact XStab.true | exact XStab.rd | exact XStab.rdIf) ?_ ?_
    rotate_left
    · first | refine Or.inl ⟨by rfl, fun w => ?_⟩ | (refine Or.inr ⟨by rfl, ?_⟩; with_reducible rfl)
      first | done | (go_simp; all_goals with_reducible rfl)
    try simp only [Act.put, List.setIfInBounds_toArray, List.set_cons_zero, List.set_cons_succ]
    refine Sim.takeP (i := 12) (d := some 5) (v := ?_) rfl rfl (by kernel_rfl) (by kernel_rfl) (by kernel_rfl) (fun _ _ _ h => h) (by first | exact XStab.true | exact XStab.rd | exact XStab.rdIf) ?_ ?_
    rotate_left
    · first | refine Or.inl ⟨by rfl, fun w => ?_⟩ | (refine Or.inr ⟨by rfl, ?_⟩; with_reducible rfl)
      first | done | (go_simp; all_goals with_reducible rfl)
    try simp only [Act.put, List.setIfInBounds_toArray, List.set_cons_zero, List.set_cons_succ]
    refine Sim.takeP (i := 13) (d := some 6) (v := ?_) rfl rfl (by kernel_rfl) (by kernel_rfl) (by kernel_rfl) (fun _ _ _ h => h) (by first | exact XStab.true | exact XStab.rd | exact XStab.rdIf) ?_ ?_
    rotate_left
    · first | refine Or.inl ⟨by rfl, fun w => ?_⟩ | (refine Or.inr ⟨by rfl, ?_⟩; with_reducible rfl)
      first | done | (go_simp; all_goals with_reducible rfl)
    try simp only [Act.put, List.setIfInBounds_toArray, List.set_cons_zero, List.set_cons_succ]
    refine Sim.done (by kernel_rfl) (fun w1 hO hX => ?_) _
    (try simp only [World.size_alloc1, World.size_drew, Nat.reduceAdd] at hO); (try simp only [upd, updI, List.map_cons, List.map_nil, eq_self, if_true, if_false, reduceIte, Nat.add_eq_left, Nat.left_eq_add, Nat.reduceEqDiff, List.set_cons_zero, List.set_cons_succ] at hO)
    have hF := hO; (try simp only [Own, Item.Holds, apartI, CellsAt, Nat.reduceAdd, Nat.zero_add, List.mem_cons, List.not_mem_nil, or_false, forall_eq_or_imp, forall_eq, ne_eq, false_imp_iff, implies_true, and_true] at hF)
    go_wp2_with fail
    apply own_end hO
    (repeat (first | (with_reducible exact hO) | (with_reducible apply Own.alloc) | (with_reducible apply Own.drew) | ((with_reducible apply Own.set_at); (focus (show _ ≤ _; omega)))))
    have hG := hF; clear hF; clear hO; intro hO
    refine own_ret (v := .tuple #[.int .i64 (t / p), .int .i64 (t % p / q), .int .i64 (t % q)]) hO ?_ rfl (fun hO => ⟨by rw [HE.out.1, HE.out.2.1, HE.out.2.2], hO.base⟩)
    clear hO; intro w1 hO
    (try simp only [World.size_alloc1, World.size_drew, Nat.reduceAdd] at hO); (try simp only [upd, updI, List.map_cons, List.map_nil, eq_self, if_true, if_false, reduceIte, Nat.add_eq_left, Nat.left_eq_add, Nat.reduceEqDiff, List.set_cons_zero, List.set_cons_succ, hG] at hO); clear hG
    have hF := hO; (try simp only [Own, Item.Holds, apartI, CellsAt, Nat.reduceAdd, Nat.zero_add, List.mem_cons, List.not_mem_nil, or_false, forall_eq_or_imp, forall_eq, ne_eq, false_imp_iff, implies_true, and_true] at hF)
    simp [results, Tryd.results25, go_sem, hF]
  · have HE := hid (show beX b u t = -1 ∧ beY b u t = -1 ∧ beW b u t = -1 by simp [beX, beY, beW, beO, hm, h0])
    have HM := hid (meS_is hm)
    have h0' : t < 0 := by omega
    clear hm h0
    go_enter Tryd.func25, Tryd.ntmps25
    go_wp2_with (go_at_call 17; apply own_at hO; (repeat (first | (with_reducible exact hO) | (with_reducible apply Own.alloc) | (with_reducible apply Own.drew) | ((with_reducible apply Own.set_at); (focus (show _ ≤ _; omega))))); have hG := hF; clear hF; clear hO; intro hO; refine own_call hO (fun hB => HM.out _) ?_; clear hO; intro w1 hO; (try simp only [World.size_alloc1, World.size_drew, Nat.reduceAdd] at hO); (try simp only [upd, updI, List.map_cons, List.map_nil, eq_self, if_true, if_false, reduceIte, Nat.add_eq_left, Nat.left_eq_add, Nat.reduceEqDiff, List.set_cons_zero, List.set_cons_succ, hG] at hO); clear hG; have hF := hO; (try simp only [Own, Item.Holds, apartI, CellsAt, Nat.reduceAdd, Nat.zero_add, List.mem_cons, List.not_mem_nil, or_false, forall_eq_or_imp, forall_eq, ne_eq, false_imp_iff, implies_true, and_true] at hF))
    apply own_end hO
    (repeat (first | (with_reducible exact hO) | (with_reducible apply Own.alloc) | (with_reducible apply Own.drew) | ((with_reducible apply Own.set_at); (focus (show _ ≤ _; omega)))))
    have hG := hF; clear hF; clear hO; intro hO
    refine own_ret (v := .tuple #[.int .i64 (-1), .int .i64 (-1), .int .i64 (-1)]) hO ?_ rfl (fun hO => ⟨by rw [HE.out.1, HE.out.2.1, HE.out.2.2], hO.base⟩)
    clear hO; intro w1 hO
    (try simp only [World.size_alloc1, World.size_drew, Nat.reduceAdd] at hO); (try simp only [upd, updI, List.map_cons, List.map_nil, eq_self, if_true, if_false, reduceIte, Nat.add_eq_left, Nat.left_eq_add, Nat.reduceEqDiff, List.set_cons_zero, List.set_cons_succ, hG] at hO); clear hG
    have hF := hO; (try simp only [Own, Item.Holds, apartI, CellsAt, Nat.reduceAdd, Nat.zero_add, List.mem_cons, List.not_mem_nil, or_false, forall_eq_or_imp, forall_eq, ne_eq, false_imp_iff, implies_true, and_true] at hF)
    simp [results, Tryd.results25, go_sem, hF]

theorem vtS_is {va : Value} {v : List Nt} {w : World} {z : Int} (ha : SlAt w va v.length 6 (vcC v)) (hn : v.length ≤ 1048576) (h : vtZ v = z) (W : World) (hW : Below w.heap.size w W) :
    Calls Tryd.prog 61 #[va] W fun e w' => e = .returned (.int .i64 z) ∧ Below W.heap.size W w' := by
  subst h
  exact vtS_any va v W (ha.below hW) hn

set_option maxHeartbeats 4000000 in
theorem bcS_any (va : Value) (v : List Nt) (b u : Int) (w : World) (ha : SlAt w va v.length 6 (vcC v)) (hn : v.length ≤ 1048576) :
    Calls Tryd.prog 35 #[va, .agg #[.int .i64 b, .int .i64 u]] w fun e w' => e = .returned (.int .i64 (bcZ v b u)) ∧ Below w.heap.size w w' := by
  have hO := Own.start w
  have hF := True.intro
  cases hv : voB v
  · have HE := hid (show bcZ v b u = -1 by simp [bcZ, hv])
    have HV := hid (voS_is rfl ha hn hv)
    clear ha hv
    go_enter Tryd.func35, Tryd.ntmps35
    go_wp2_with (go_at_call 55; apply own_at hO; (repeat (first | (with_reducible exact hO) | (with_reducible apply Own.alloc) | (with_reducible apply Own.drew) | ((with_reducible apply Own.set_at); (focus (show _ ≤ _; omega))))); have hG := hF; clear hF; clear hO; intro hO; refine own_call hO (fun hB => HV.out _ hB) ?_; clear hO; intro w1 hO; (try simp only [World.size_alloc1, World.size_drew, Nat.reduceAdd] at hO); (try simp only [upd, updI, List.map_cons, List.map_nil, eq_self, if_true, if_false, reduceIte, Nat.add_eq_left, Nat.left_eq_add, Nat.reduceEqDiff, List.set_cons_zero, List.set_cons_succ, hG] at hO); clear hG; have hF := hO; (try simp only [Own, Item.Holds, apartI, CellsAt, Nat.reduceAdd, Nat.zero_add, List.mem_cons, List.not_mem_nil, or_false, forall_eq_or_imp, forall_eq, ne_eq, false_imp_iff, implies_true, and_true] at hF))
    go_ret
    exact ⟨ret_int HE.out.symm, Own.base (by (repeat (first | (with_reducible exact hO) | (with_reducible apply Own.alloc) | (with_reducible apply Own.drew) | ((with_reducible apply Own.set_at); (focus (show _ ≤ _; omega))))))⟩
  cases hm : meB b u
  · have HE := hid (show bcZ v b u = -1 by simp [bcZ, hm])
    have HV := hid (voS_is rfl ha hn hv)
    have HM := hid (meS_is hm)
    clear ha hv hm
    go_enter Tryd.func35, Tryd.ntmps35
    go_wp2_with (first | (go_at_call 55; apply own_at hO; (repeat (first | (with_reducible exact hO) | (with_reducible apply Own.alloc) | (with_reducible apply Own.drew) | ((with_reducible apply Own.set_at); (focus (show _ ≤ _; omega))))); have hG := hF; clear hF; clear hO; intro hO; refine own_call hO (fun hB => HV.out _ hB) ?_; clear hO; intro w1 hO; (try simp only [World.size_alloc1, World.size_drew, Nat.reduceAdd] at hO); (try simp only [upd, updI, List.map_cons, List.map_nil, eq_self, if_true, if_false, reduceIte, Nat.add_eq_left, Nat.left_eq_add, Nat.reduceEqDiff, List.set_cons_zero, List.set_cons_succ, hG] at hO); clear hG; have hF := hO; (try simp only [Own, Item.Holds, apartI, CellsAt, Nat.reduceAdd, Nat.zero_add, List.mem_cons, List.not_mem_nil, or_false, forall_eq_or_imp, forall_eq, ne_eq, false_imp_iff, implies_true, and_true] at hF)) | (go_at_call 17; apply own_at hO; (repeat (first | (with_reducible exact hO) | (with_reducible apply Own.alloc) | (with_reducible apply Own.drew) | ((with_reducible apply Own.set_at); (focus (show _ ≤ _; omega))))); have hG := hF; clear hF; clear hO; intro hO; refine own_call hO (fun hB => HM.out _) ?_; clear hO; intro w1 hO; (try simp only [World.size_alloc1, World.size_drew, Nat.reduceAdd] at hO); (try simp only [upd, updI, List.map_cons, List.map_nil, eq_self, if_true, if_false, reduceIte, Nat.add_eq_left, Nat.left_eq_add, Nat.reduceEqDiff, List.set_cons_zero, List.set_cons_succ, hG] at hO); clear hG; have hF := hO; (try simp only [Own, Item.Holds, apartI, CellsAt, Nat.reduceAdd, Nat.zero_add, List.mem_cons, List.not_mem_nil, or_false, forall_eq_or_imp, forall_eq, ne_eq, false_imp_iff, implies_true, and_true] at hF)))
    go_ret
    exact ⟨ret_int HE.out.symm, Own.base (by (repeat (first | (with_reducible exact hO) | (with_reducible apply Own.alloc) | (with_reducible apply Own.drew) | ((with_reducible apply Own.set_at); (focus (show _ ≤ _; omega))))))⟩
  · have HE := hid (show bcZ v b u = (sumT v + baZ b u - 1) / baZ b u by simp [bcZ, hv, hm, bcN])
    have HV := hid (voS_is rfl ha hn hv)
    have HM := hid (meS_is hm)
    have HB := hid (btS_is (show btZ b u = baZ b u by unfold btZ; rw [hm]; rfl))
    have HT := hid (vtS_is ha hn (show vtZ v = sumT v by unfold vtZ; rw [hv]; rfl))
    have hs := sum_bd hv
    have hb := ba_bd hm
    have hc := bc_bd hv hm
    have hc2 : (sumT v + baZ b u - 1) / baZ b u = bcN v b u := rfl
    rw [← hc2] at hc
    obtain ⟨p, hp⟩ : ∃ p, baZ b u = p := ⟨_, rfl⟩
    obtain ⟨s, hs'⟩ : ∃ s, sumT v = s := ⟨_, rfl⟩
    rw [hp, hs'] at HE hc
    rw [hp] at HB hb
    rw [hs'] at HT hs
    have p0 : ¬ p = 0 := by omega
    have w1 : IntKind.i64.wrap (s + p) = s + p := IntWalk.i64_in _ (by omega)
    have w2 : IntKind.i64.wrap (s + p - 1) = s + p - 1 := IntWalk.i64_in _ (by omega)
    have f1 : (s + p - 1).tdiv p = (s + p - 1) / p := Int.tdiv_eq_ediv_of_nonneg (by omega)
    have g1 : IntKind.i64.wrap ((s + p - 1) / p) = (s + p - 1) / p := IntWalk.i64_in _ (by omega)
    clear ha hv hm hp hs' hc hc2
    go_enter Tryd.func35, Tryd.ntmps35
    go_wp2_with (first | (go_at_call 55; apply own_at hO; (repeat (first | (with_reducible exact hO) | (with_reducible apply Own.alloc) | (with_reducible apply Own.drew) | ((with_reducible apply Own.set_at); (focus (show _ ≤ _; omega))))); have hG := hF; clear hF; clear hO; intro hO; refine own_call hO (fun hB => HV.out _ hB) ?_; clear hO; intro w1 hO; (try simp only [World.size_alloc1, World.size_drew, Nat.reduceAdd] at hO); (try simp only [upd, updI, List.map_cons, List.map_nil, eq_self, if_true, if_false, reduceIte, Nat.add_eq_left, Nat.left_eq_add, Nat.reduceEqDiff, List.set_cons_zero, List.set_cons_succ, hG] at hO); clear hG; have hF := hO; (try simp only [Own, Item.Holds, apartI, CellsAt, Nat.reduceAdd, Nat.zero_add, List.mem_cons, List.not_mem_nil, or_false, forall_eq_or_imp, forall_eq, ne_eq, false_imp_iff, implies_true, and_true] at hF)) | (go_at_call 17; apply own_at hO; (repeat (first | (with_reducible exact hO) | (with_reducible apply Own.alloc) | (with_reducible apply Own.drew) | ((with_reducible apply Own.set_at); (focus (show _ ≤ _; omega))))); have hG := hF; clear hF; clear hO; intro hO; refine own_call hO (fun hB => HM.out _) ?_; clear hO; intro w1 hO; (try simp only [World.size_alloc1, World.size_drew, Nat.reduceAdd] at hO); (try simp only [upd, updI, List.map_cons, List.map_nil, eq_self, if_true, if_false, reduceIte, Nat.add_eq_left, Nat.left_eq_add, Nat.reduceEqDiff, List.set_cons_zero, List.set_cons_succ, hG] at hO); clear hG; have hF := hO; (try simp only [Own, Item.Holds, apartI, CellsAt, Nat.reduceAdd, Nat.zero_add, List.mem_cons, List.not_mem_nil, or_false, forall_eq_or_imp, forall_eq, ne_eq, false_imp_iff, implies_true, and_true] at hF)) | (go_at_call 21; apply own_at hO; (repeat (first | (with_reducible exact hO) | (with_reducible apply Own.alloc) | (with_reducible apply Own.drew) | ((with_reducible apply Own.set_at); (focus (show _ ≤ _; omega))))); have hG := hF; clear hF; clear hO; intro hO; refine own_call hO (fun hB => HB.out _) ?_; clear hO; intro w1 hO; (try simp only [World.size_alloc1, World.size_drew, Nat.reduceAdd] at hO); (try simp only [upd, updI, List.map_cons, List.map_nil, eq_self, if_true, if_false, reduceIte, Nat.add_eq_left, Nat.left_eq_add, Nat.reduceEqDiff, List.set_cons_zero, List.set_cons_succ, hG] at hO); clear hG; have hF := hO; (try simp only [Own, Item.Holds, apartI, CellsAt, Nat.reduceAdd, Nat.zero_add, List.mem_cons, List.not_mem_nil, or_false, forall_eq_or_imp, forall_eq, ne_eq, false_imp_iff, implies_true, and_true] at hF)) | (go_at_call 61; apply own_at hO; (repeat (first | (with_reducible exact hO) | (with_reducible apply Own.alloc) | (with_reducible apply Own.drew) | ((with_reducible apply Own.set_at); (focus (show _ ≤ _; omega))))); have hG := hF; clear hF; clear hO; intro hO; refine own_call hO (fun hB => HT.out _ hB) ?_; clear hO; intro w1 hO; (try simp only [World.size_alloc1, World.size_drew, Nat.reduceAdd] at hO); (try simp only [upd, updI, List.map_cons, List.map_nil, eq_self, if_true, if_false, reduceIte, Nat.add_eq_left, Nat.left_eq_add, Nat.reduceEqDiff, List.set_cons_zero, List.set_cons_succ, hG] at hO); clear hG; have hF := hO; (try simp only [Own, Item.Holds, apartI, CellsAt, Nat.reduceAdd, Nat.zero_add, List.mem_cons, List.not_mem_nil, or_false, forall_eq_or_imp, forall_eq, ne_eq, false_imp_iff, implies_true, and_true] at hF)))
    go_ret
    exact ⟨ret_int HE.out.symm, Own.base (by (repeat (first | (with_reducible exact hO) | (with_reducible apply Own.alloc) | (with_reducible apply Own.drew) | ((with_reducible apply Own.set_at); (focus (show _ ≤ _; omega))))))⟩

/- Chapter 6 in the model: voices divided at bars. -/
open Go.RowKit

theorem cut_go {p S left : Int} {x : Nt} {done : List Nt} (hp : 1 ≤ p) (hl : 1 ≤ left) (h : cutL p S x.t x = done ++ cutL p (S + (x.t - left)) left x) :
    cutL p S x.t x = (done ++ [pcX p (S + (x.t - left)) left x]) ++ cutL p (S + (x.t - (left - pcN p (S + (x.t - left)) left))) (left - pcN p (S + (x.t - left)) left) x := by
  rw [h, cutL_step hp hl, List.append_assoc]
  rw [show S + (x.t - left) + pcN p (S + (x.t - left)) left = S + (x.t - (left - pcN p (S + (x.t - left)) left)) by omega]
  rfl
theorem min_pc {p at' left : Int} : pcN p at' left = if left < p - at' % p then left else p - at' % p := by
  unfold pcN
  split <;> omega
theorem sp_take_len {p : Int} (hp : 1 ≤ p) {v : List Nt} (h : voB v = true) (j : Nat) : ((spL p (v.take j)).length : Int) ≤ sumT (v.take j) :=
  sp_len hp (fun x hx => vo_pos h x (List.mem_of_mem_take hx))

set_option maxRecDepth 20000 in
set_option maxHeartbeats 16000000 in
theorem spS_in (va : Value) (v : List Nt) (b u : Int) (n : Nat) (w : World) (hnl : v.length = n) (hs : SlAt w va n 6 (vcC v)) (hv : voB v = true) (hm : meB b u = true) :
    Calls Tryd.prog 28 #[va, .agg #[.int .i64 b, .int .i64 u]] w (RowOutB 46 6 (ssL v b u).length (vcC (ssL v b u)) (spB v b u) w) := by
  have hO := Own.start w
  have hF := True.intro
  obtain ⟨i0, hi0, hz0, hz1, hz2⟩ := info_parts infoN
  obtain ⟨A, c, rfl, nb, hA⟩ := hs.open
  have HA := hid hs
  have HN := hid hnl
  have hn60 : n ≤ 60 := by have := (voB_iff.1 hv).2; omega
  have HV := hid (voS_is hnl hs (by omega) hv)
  have HVO := hid hv
  have HM := hid (meS_is hm)
  have HMO := hid hm
  have HB := hid (btS_is (show btZ b u = baZ b u by unfold btZ; rw [hm]; rfl))
  have hb := ba_bd hm
  have HE := hid (show spB v b u = decide ((spL (baZ b u) v).length ≤ 60) ∧ ssL v b u = if (spL (baZ b u) v).length ≤ 60 then spL (baZ b u) v else [] by
    have e : spB v b u = decide ((spL (baZ b u) v).length ≤ 60) := by simp [spB, hv, hm]
    refine ⟨e, ?_⟩
    unfold ssL
    rw [e]
    simp)
  obtain ⟨p, hp⟩ : ∃ p, baZ b u = p := ⟨_, rfl⟩
  rw [hp] at HB HE hb
  have hb1 : 1 ≤ p := by omega
  have p0 : ¬ p = 0 := by omega
  clear hs hnl hv hm hp
  go_enter Tryd.func28, Tryd.ntmps28
  go_wp2_with fail
  replace hO := (hO.alloc (t := 24) (vs := [.int .i64 b, .int .i64 u])).allocRow (e := 46) (cur := #[]) (k := 0) (cap := 0) 6 (by omega) (by unfold maxLen; omega) rfl
  simp only [World.size_alloc1] at hO
  go_wp2_with (first | (go_at_call 55; apply own_at hO; (repeat (first | (with_reducible exact hO) | (with_reducible apply Own.alloc) | (with_reducible apply Own.drew) | ((with_reducible apply Own.set_at); (focus (show _ ≤ _; omega))))); have hG := hF; clear hF; clear hO; intro hO; refine own_call hO (fun hB => HV.out _ hB) ?_; clear hO; intro w1 hO; (try simp only [World.size_alloc1, World.size_drew, Nat.reduceAdd] at hO); (try simp only [upd, updI, List.map_cons, List.map_nil, eq_self, if_true, if_false, reduceIte, Nat.add_eq_left, Nat.left_eq_add, Nat.reduceEqDiff, List.set_cons_zero, List.set_cons_succ, hG] at hO); clear hG; have hF := hO; (try simp only [Own, Item.Holds, apartI, CellsAt, Nat.reduceAdd, Nat.zero_add, List.mem_cons, List.not_mem_nil, or_false, forall_eq_or_imp, forall_eq, ne_eq, false_imp_iff, implies_true, and_true] at hF)) | (go_at_call 17; apply own_at hO; (repeat (first | (with_reducible exact hO) | (with_reducible apply Own.alloc) | (with_reducible apply Own.drew) | ((with_reducible apply Own.set_at); (focus (show _ ≤ _; omega))))); have hG := hF; clear hF; clear hO; intro hO; refine own_call hO (fun hB => HM.out _) ?_; clear hO; intro w1 hO; (try simp only [World.size_alloc1, World.size_drew, Nat.reduceAdd] at hO); (try simp only [upd, updI, List.map_cons, List.map_nil, eq_self, if_true, if_false, reduceIte, Nat.add_eq_left, Nat.left_eq_add, Nat.reduceEqDiff, List.set_cons_zero, List.set_cons_succ, hG] at hO); clear hG; have hF := hO; (try simp only [Own, Item.Holds, apartI, CellsAt, Nat.reduceAdd, Nat.zero_add, List.mem_cons, List.not_mem_nil, or_false, forall_eq_or_imp, forall_eq, ne_eq, false_imp_iff, implies_true, and_true] at hF)) | (go_at_call 21; apply own_at hO; (repeat (first | (with_reducible exact hO) | (with_reducible apply Own.alloc) | (with_reducible apply Own.drew) | ((with_reducible apply Own.set_at); (focus (show _ ≤ _; omega))))); have hG := hF; clear hF; clear hO; intro hO; refine own_call hO (fun hB => HB.out _) ?_; clear hO; intro w1 hO; (try simp only [World.size_alloc1, World.size_drew, Nat.reduceAdd] at hO); (try simp only [upd, updI, List.map_cons, List.map_nil, eq_self, if_true, if_false, reduceIte, Nat.add_eq_left, Nat.left_eq_add, Nat.reduceEqDiff, List.set_cons_zero, List.set_cons_succ, hG] at hO); clear hG; have hF := hO; (try simp only [Own, Item.Holds, apartI, CellsAt, Nat.reduceAdd, Nat.zero_add, List.mem_cons, List.not_mem_nil, or_false, forall_eq_or_imp, forall_eq, ne_eq, false_imp_iff, implies_true, and_true] at hF)))
  (apply own_code hO; (repeat (first | (with_reducible exact hO) | (with_reducible apply Own.alloc) | (with_reducible apply Own.drew) | ((with_reducible apply Own.set_at); (focus (show _ ≤ _; omega))))); have hG := hF; clear hF; clear hO; intro hO; (try simp only [World.size_alloc1, World.size_drew, Nat.reduceAdd] at hO); (try simp only [upd, updI, List.map_cons, List.map_nil, eq_self, if_true, if_false, reduceIte, Nat.add_eq_left, Nat.left_eq_add, Nat.reduceEqDiff, List.set_cons_zero, List.set_cons_succ, hG] at hO); clear hG; have hF := hO; (try simp only [Own, Item.Holds, apartI, CellsAt, Nat.reduceAdd, Nat.zero_add, List.mem_cons, List.not_mem_nil, or_false, forall_eq_or_imp, forall_eq, ne_eq, false_imp_iff, implies_true, and_true] at hF))
  go_loopw [6, 8, 9] (fun o a t wr => ∃ j : Nat, j ≤ n ∧ t = .int .i64 j ∧ a = .int .i64 (sumT (v.take j)) ∧ Own w.heap.size (Below w.heap.size w) wr [.row 46 6 o (spL p (v.take j)).length (vcC (spL p (v.take j))), .blk w.heap.size [.int .i64 b, .int .i64 u]]) (fun _ _ t _ => n - (intOf t).toNat)
  case atStart => exact ⟨0, by omega, rfl, rfl, hO⟩
  case round =>
    clear hO hF
    obtain ⟨j, hj, rfl, rfl, hO⟩ := hrel
    have hF := hO; (try simp only [Own, Item.Holds, apartI, CellsAt, Nat.reduceAdd, Nat.zero_add, List.mem_cons, List.not_mem_nil, or_false, forall_eq_or_imp, forall_eq, ne_eq, false_imp_iff, implies_true, and_true] at hF)
    have hsl := sp_take_len hb1 HVO.out j
    have hsb := sumT_bd HVO.out j
    by_cases he : j = n
    · subst he
      have ht : v.take j = v := by rw [← HN.out, List.take_length]
      rw [ht] at hO hsl hsb
      rw [ht]
      obtain ⟨A1, cp1, hv1⟩ := (SlAt.of_row hO.1.1).form
      subst hv1
      obtain ⟨z, hz⟩ : ∃ z, (spL p v).length = z := ⟨_, rfl⟩
      rw [hz] at HE hO hsl
      rw [hz]
      clear ht
      by_cases h60 : z ≤ 60
      · have hz2 : (z : Int) ≤ 60 := by omega
        rw [if_pos h60] at HE
        go_wp2_with fail
        go_ret2
        rw [HE.out.1, HE.out.2, hz]
        simp only [h60, decide_true]
        exact RowOutB.mk hO
      · have hz2 : (60 : Int) < z := by omega
        rw [if_neg h60] at HE
        go_wp2_with fail
        go_ret2
        rw [HE.out.1, HE.out.2]
        simp only [h60, decide_false]
        have hO2 := hO.allocRow (e := 46) (cur := #[]) (k := 0) (cap := 0) 6 (by omega) (by unfold maxLen; omega) rfl
        exact RowOutB.mk hO2
    · have hlt : j < n := by omega
      have hlt2 : (j : Int) < n := by omega
      obtain ⟨bk, off, rfl, hc1, hc2, hbk⟩ := hA (by omega)
      obtain ⟨x, hx⟩ : ∃ x, v[j]? = some x := ⟨_, List.getElem?_eq_getElem (by have := HN.out; omega)⟩
      obtain ⟨d0, d1, d2, d3, d4, d5⟩ := noteAt (HA.out.below hO.base) hx
      have hbw : bk < wr.heap.size := Nat.lt_of_lt_of_le hbk hO.base.size
      have HX := hid hx
      have xb := vo_at HVO.out hx
      have HU := hid (And.intro (sumT_up hx) (sp_up (bar := p) hx))
      have HJ := hid (And.intro hj hlt)
      obtain ⟨S, hS⟩ : ∃ S, sumT (v.take j) = S := ⟨_, rfl⟩
      obtain ⟨R, hR⟩ : ∃ R, spL p (v.take j) = R := ⟨_, rfl⟩
      rw [hS, hR] at hsl HU
      rw [hS] at hsb
      rw [hR] at hO
      rw [hS]
      clear he hx hA hj hlt hS hR hF
      have hF := hO; (try simp only [Own, Item.Holds, apartI, CellsAt, Nat.reduceAdd, Nat.zero_add, List.mem_cons, List.not_mem_nil, or_false, forall_eq_or_imp, forall_eq, ne_eq, false_imp_iff, implies_true, and_true] at hF)
      go_wp2_with fail
      (apply own_code hO; (repeat (first | (with_reducible exact hO) | (with_reducible apply Own.alloc) | (with_reducible apply Own.drew) | ((with_reducible apply Own.set_at); (focus (show _ ≤ _; omega))))); have hG := hF; clear hF; clear hO; intro hO; (try simp only [World.size_alloc1, World.size_drew, Nat.reduceAdd] at hO); (try simp only [upd, updI, List.map_cons, List.map_nil, eq_self, if_true, if_false, reduceIte, Nat.add_eq_left, Nat.left_eq_add, Nat.reduceEqDiff, List.set_cons_zero, List.set_cons_succ, hG] at hO); clear hG; have hF := hO; (try simp only [Own, Item.Holds, apartI, CellsAt, Nat.reduceAdd, Nat.zero_add, List.mem_cons, List.not_mem_nil, or_false, forall_eq_or_imp, forall_eq, ne_eq, false_imp_iff, implies_true, and_true] at hF))
      replace hO := Own.perm (List.Perm.swap _ _ _) hO
      obtain ⟨q, hq⟩ : ∃ q, wr.heap.size = q := ⟨_, rfl⟩
      rw [hq] at hO ⊢
      rw [hq] at hbw
      clear hF d0 d1 d2 d3 d4 d5
      go_loopw [6, 8, 11] (fun o a l wi => ∃ (done : List Nt) (left t' : Int) (y' : Bool), (0 ≤ left ∧ left ≤ x.t) ∧ l = .int .i64 left ∧ a = .int .i64 (S + (x.t - left)) ∧ Hid (cutL p S x.t x = done ++ cutL p (S + (x.t - left)) left x) ∧ ((done.length : Int) ≤ x.t - left) ∧
        Own w.heap.size (Below w.heap.size w) wi [.row 46 6 o (R ++ done).length (vcC (R ++ done)), .blk q [.bool x.r, .int .i64 x.s, .int .i64 x.a, .int .i64 x.o, .int .i64 t', .bool y'], .blk w.heap.size [.int .i64 b, .int .i64 u]]) (fun _ _ l _ => (intOf l).toNat)
      case atStart => exact ⟨[], x.t, x.t, x.y, by omega, rfl, by rw [Int.sub_self, Int.add_zero], (show cutL p S x.t x = [] ++ cutL p (S + (x.t - x.t)) x.t x by rw [Int.sub_self, Int.add_zero]; rfl), by simp, by rw [List.append_nil]; exact hO⟩
      case round =>
        clear hO
        obtain ⟨done, left, t', y', hl, rfl, rfl, HC, hdl, hO⟩ := hrel
        obtain ⟨d0, d1, d2, d3, d4, d5⟩ := noteAt (HA.out.below hO.base) HX.out
        have hF := True.intro
        have hF := hO; (try simp only [Own, Item.Holds, apartI, CellsAt, Nat.reduceAdd, Nat.zero_add, List.mem_cons, List.not_mem_nil, or_false, forall_eq_or_imp, forall_eq, ne_eq, false_imp_iff, implies_true, and_true] at hF)
        by_cases hl0 : left = 0
        · subst hl0
          have HE3 := hid (show spL p (v.take (j + 1)) = R ++ done by rw [HU.out.2, HC.out, cutL_end (Int.le_refl _), List.append_nil])
          go_wp2_with fail
          go_roundw
          case rel => exact ⟨j + 1, by have := HJ.out; omega, by go_num, by rw [HU.out.1]; congr 1; omega, by rw [HE3.out]; exact Own.sub (.cons_cons _ (.cons _ (.cons_cons _ .slnil))) hO⟩
          case measure => have := HJ.out; simp [intOf]; omega
        · have hl1 : 1 ≤ left := by omega
          have hl2 : (0 : Int) < left := by omega
          have HCG := hid (cut_go hb1 hl1 HC.out)
          have HXY := hid (show (pcN p (S + (x.t - left)) left < left → (pcX p (S + (x.t - left)) left x).y = !x.r) ∧ (¬ pcN p (S + (x.t - left)) left < left → (pcX p (S + (x.t - left)) left x).y = x.y) from ⟨fun h => pc_more h, fun h => pc_last (by have := pc_bd (at' := S + (x.t - left)) hb1 hl1; omega)⟩)
          have HPX := hid (show pcX p (S + (x.t - left)) left x = { x with t := pcN p (S + (x.t - left)) left, y := (pcX p (S + (x.t - left)) left x).y } from rfl)
          have hpb := pc_bd (at' := S + (x.t - left)) hb1 hl1
          have hmp := min_pc (p := p) (at' := S + (x.t - left)) (left := left)
          have hA0 : 0 ≤ S + (x.t - left) := by omega
          have f1 : (S + (x.t - left)).tmod p = (S + (x.t - left)) % p := Int.tmod_eq_emod_of_nonneg hA0
          have m0 := Int.emod_nonneg (S + (x.t - left)) (show p ≠ 0 by omega)
          have m1 := Int.emod_lt_of_pos (S + (x.t - left)) (show 0 < p by omega)
          obtain ⟨P, hP⟩ : ∃ P, pcN p (S + (x.t - left)) left = P := ⟨_, rfl⟩
          obtain ⟨A', hA'⟩ : ∃ A', S + (x.t - left) = A' := ⟨_, rfl⟩
          rw [hA'] at hP HCG HXY HPX hpb hmp hA0 f1 m0 m1
          rw [hP] at HCG HXY HPX hpb hmp
          rw [hA']
          obtain ⟨m, hm⟩ : ∃ m, A' % p = m := ⟨_, rfl⟩
          rw [hm] at hmp f1 m0 m1
          have g1 : IntKind.i64.wrap m = m := IntWalk.i64_in _ (by omega)
          have g2 : IntKind.i64.wrap (p - m) = p - m := IntWalk.i64_in _ (by omega)
          have g3 : IntKind.i64.wrap (left - P) = left - P := IntWalk.i64_in _ (by omega)
          have g4 : IntKind.i64.wrap (A' + P) = A' + P := IntWalk.i64_in _ (by omega)
          obtain ⟨k, hk⟩ : ∃ k, (R ++ done).length = k := ⟨_, rfl⟩
          have HFIN := hid (show ∀ (v' : Value) (w3 : World) (y : Bool), (pcX p A' left x).y = y → Own w.heap.size (Below w.heap.size w) w3 [.row 46 6 v' (k + 1) (vcC (R ++ done) ++ [.bool x.r, .int .i64 x.s, .int .i64 x.a, .int .i64 x.o, .int .i64 P, .bool y]), .blk q [.bool x.r, .int .i64 x.s, .int .i64 x.a, .int .i64 x.o, .int .i64 P, .bool y], .blk w.heap.size [.int .i64 b, .int .i64 u]] →
            ∃ (done : List Nt) (left' t' : Int) (y' : Bool), (0 ≤ left' ∧ left' ≤ x.t) ∧ Value.int .i64 (left - P) = .int .i64 left' ∧ Value.int .i64 (A' + P) = .int .i64 (S + (x.t - left')) ∧ Hid (cutL p S x.t x = done ++ cutL p (S + (x.t - left')) left' x) ∧ ((done.length : Int) ≤ x.t - left') ∧
        Own w.heap.size (Below w.heap.size w) w3 [.row 46 6 v' (R ++ done).length (vcC (R ++ done)), .blk q [.bool x.r, .int .i64 x.s, .int .i64 x.a, .int .i64 x.o, .int .i64 t', .bool y'], .blk w.heap.size [.int .i64 b, .int .i64 u]] from fun v' w3 y hy hO => by
            refine ⟨done ++ [pcX p A' left x], left - P, P, y, by omega, rfl, by congr 1; omega, HCG.out, by rw [List.length_append]; simp; omega, ?_⟩
            rw [← List.append_assoc, List.length_append, hk, vcC_append (R ++ done), HPX.out, hy]
            exact hO)
          have hkb : k ≤ 100000 := by rw [← hk, List.length_append]; omega
          rw [hk] at hO
          clear hA' hP hm HC hl0 hdl hsl HCG HPX hk hF
          have hF := hO; (try simp only [Own, Item.Holds, apartI, CellsAt, Nat.reduceAdd, Nat.zero_add, List.mem_cons, List.not_mem_nil, or_false, forall_eq_or_imp, forall_eq, ne_eq, false_imp_iff, implies_true, and_true] at hF)
          by_cases hc : left ≤ p - m
          · obtain rfl : P = left := by rw [hmp]; split <;> omega
            have HY := HXY.out.2 (by omega)
            have q1 : ¬ p - m < P := by omega
            clear hmp HXY
            cases hr : x.r
            · have HR := hid hr
              rw [hr] at hO hF d0
              clear hr
              go_wp2_with (at_builtin; apply own_list hO; (repeat (first | (with_reducible exact hO) | (with_reducible apply Own.alloc) | (with_reducible apply Own.drew) | ((with_reducible apply Own.set_at); (focus (show _ ≤ _; omega))))); have hG := hF; clear hF; clear hO; intro hO; (try simp only [World.size_alloc1, World.size_drew, Nat.reduceAdd] at hO); (try simp only [upd, updI, List.map_cons, List.map_nil, eq_self, if_true, if_false, reduceIte, Nat.add_eq_left, Nat.left_eq_add, Nat.reduceEqDiff, List.set_cons_zero, List.set_cons_succ, hG] at hO); clear hG; (try simp only [World.size_setCell] at hO); have hF := hO; (try simp only [Own, Item.Holds, apartI, CellsAt, Nat.reduceAdd, Nat.zero_add, List.mem_cons, List.not_mem_nil, or_false, forall_eq_or_imp, forall_eq, ne_eq, false_imp_iff, implies_true, and_true] at hF); refine wpList_append_item rfl _ _ 37 rfl 46 i0 (.agg #[.bool false, .int .i64 0, .int .i64 0, .int .i64 0, .int .i64 0, .bool false]) 6 48 Tryd.underlying37 hi0 hz0 hz1 hz2 rfl (by decide) rfl rfl hO rfl one6g (by unfold maxLen; omega) (by omega) ?_; clear hO hF; intro v' w3 hO _; have hF := True.intro)
              go_roundw
              case rel =>
                have h9 := HFIN.out v' w3 (x.y) (by rw [HY] <;> rfl) (by rw [HR.out]; exact hO)
                try simp only [HR.out, Int.sub_self] at h9
                exact h9
              case measure => simp [intOf]; omega
            · have HR := hid hr
              rw [hr] at hO hF d0
              clear hr
              go_wp2_with (at_builtin; apply own_list hO; (repeat (first | (with_reducible exact hO) | (with_reducible apply Own.alloc) | (with_reducible apply Own.drew) | ((with_reducible apply Own.set_at); (focus (show _ ≤ _; omega))))); have hG := hF; clear hF; clear hO; intro hO; (try simp only [World.size_alloc1, World.size_drew, Nat.reduceAdd] at hO); (try simp only [upd, updI, List.map_cons, List.map_nil, eq_self, if_true, if_false, reduceIte, Nat.add_eq_left, Nat.left_eq_add, Nat.reduceEqDiff, List.set_cons_zero, List.set_cons_succ, hG] at hO); clear hG; (try simp only [World.size_setCell] at hO); have hF := hO; (try simp only [Own, Item.Holds, apartI, CellsAt, Nat.reduceAdd, Nat.zero_add, List.mem_cons, List.not_mem_nil, or_false, forall_eq_or_imp, forall_eq, ne_eq, false_imp_iff, implies_true, and_true] at hF); refine wpList_append_item rfl _ _ 37 rfl 46 i0 (.agg #[.bool false, .int .i64 0, .int .i64 0, .int .i64 0, .int .i64 0, .bool false]) 6 48 Tryd.underlying37 hi0 hz0 hz1 hz2 rfl (by decide) rfl rfl hO rfl one6g (by unfold maxLen; omega) (by omega) ?_; clear hO hF; intro v' w3 hO _; have hF := True.intro)
              go_roundw
              case rel =>
                have h9 := HFIN.out v' w3 (x.y) (by rw [HY] <;> rfl) (by rw [HR.out]; exact hO)
                try simp only [HR.out, Int.sub_self] at h9
                exact h9
              case measure => simp [intOf]; omega
          · obtain rfl : P = p - m := by rw [hmp]; split <;> omega
            have HY := HXY.out.1 (by omega)
            have q1 : p - m < left := by omega
            have q2 : 0 < left - (p - m) := by omega
            clear hmp HXY
            cases hr : x.r
            · have HR := hid hr
              rw [hr] at hO hF d0 HY
              clear hr
              go_wp2_with (at_builtin; apply own_list hO; (repeat (first | (with_reducible exact hO) | (with_reducible apply Own.alloc) | (with_reducible apply Own.drew) | ((with_reducible apply Own.set_at); (focus (show _ ≤ _; omega))))); have hG := hF; clear hF; clear hO; intro hO; (try simp only [World.size_alloc1, World.size_drew, Nat.reduceAdd] at hO); (try simp only [upd, updI, List.map_cons, List.map_nil, eq_self, if_true, if_false, reduceIte, Nat.add_eq_left, Nat.left_eq_add, Nat.reduceEqDiff, List.set_cons_zero, List.set_cons_succ, hG] at hO); clear hG; (try simp only [World.size_setCell] at hO); have hF := hO; (try simp only [Own, Item.Holds, apartI, CellsAt, Nat.reduceAdd, Nat.zero_add, List.mem_cons, List.not_mem_nil, or_false, forall_eq_or_imp, forall_eq, ne_eq, false_imp_iff, implies_true, and_true] at hF); refine wpList_append_item rfl _ _ 37 rfl 46 i0 (.agg #[.bool false, .int .i64 0, .int .i64 0, .int .i64 0, .int .i64 0, .bool false]) 6 48 Tryd.underlying37 hi0 hz0 hz1 hz2 rfl (by decide) rfl rfl hO rfl one6g (by unfold maxLen; omega) (by omega) ?_; clear hO hF; intro v' w3 hO _; have hF := True.intro)
              go_roundw
              case rel =>
                have h9 := HFIN.out v' w3 (true) (by rw [HY] <;> rfl) (by rw [HR.out]; exact hO)
                try simp only [HR.out, Int.sub_self] at h9
                exact h9
              case measure => simp [intOf]; omega
            · have HR := hid hr
              rw [hr] at hO hF d0 HY
              clear hr
              go_wp2_with (at_builtin; apply own_list hO; (repeat (first | (with_reducible exact hO) | (with_reducible apply Own.alloc) | (with_reducible apply Own.drew) | ((with_reducible apply Own.set_at); (focus (show _ ≤ _; omega))))); have hG := hF; clear hF; clear hO; intro hO; (try simp only [World.size_alloc1, World.size_drew, Nat.reduceAdd] at hO); (try simp only [upd, updI, List.map_cons, List.map_nil, eq_self, if_true, if_false, reduceIte, Nat.add_eq_left, Nat.left_eq_add, Nat.reduceEqDiff, List.set_cons_zero, List.set_cons_succ, hG] at hO); clear hG; (try simp only [World.size_setCell] at hO); have hF := hO; (try simp only [Own, Item.Holds, apartI, CellsAt, Nat.reduceAdd, Nat.zero_add, List.mem_cons, List.not_mem_nil, or_false, forall_eq_or_imp, forall_eq, ne_eq, false_imp_iff, implies_true, and_true] at hF); refine wpList_append_item rfl _ _ 37 rfl 46 i0 (.agg #[.bool false, .int .i64 0, .int .i64 0, .int .i64 0, .int .i64 0, .bool false]) 6 48 Tryd.underlying37 hi0 hz0 hz1 hz2 rfl (by decide) rfl rfl hO rfl one6g (by unfold maxLen; omega) (by omega) ?_; clear hO hF; intro v' w3 hO _; have hF := True.intro)
              go_roundw
              case rel =>
                have h9 := HFIN.out v' w3 (false) (by rw [HY] <;> rfl) (by rw [HR.out]; exact hO)
                try simp only [HR.out, Int.sub_self] at h9
                exact h9
              case measure => simp [intOf]; omega

set_option maxHeartbeats 4000000 in
theorem spS_out (va : Value) (v : List Nt) (b u : Int) (n : Nat) (w : World) (hnl : v.length = n) (hn : n ≤ 1048576) (hs : SlAt w va n 6 (vcC v)) (hv : (voB v && meB b u) = false) :
    Calls Tryd.prog 28 #[va, .agg #[.int .i64 b, .int .i64 u]] w (RowOutB 46 6 0 [] false w) := by
  have hO := Own.start w
  have hF := True.intro
  cases hvo : voB v
  · have HV := hid (voS_is hnl hs hn hvo)
    clear hs hnl hv hvo
    go_enter Tryd.func28, Tryd.ntmps28
    go_wp2_with fail
    replace hO := (hO.alloc (t := 24) (vs := [.int .i64 b, .int .i64 u])).allocRow (e := 46) (cur := #[]) (k := 0) (cap := 0) 6 (by omega) (by unfold maxLen; omega) rfl
    simp only [World.size_alloc1] at hO
    go_wp2_with (go_at_call 55; apply own_at hO; (repeat (first | (with_reducible exact hO) | (with_reducible apply Own.alloc) | (with_reducible apply Own.drew) | ((with_reducible apply Own.set_at); (focus (show _ ≤ _; omega))))); have hG := hF; clear hF; clear hO; intro hO; refine own_call hO (fun hB => HV.out _ hB) ?_; clear hO; intro w1 hO; (try simp only [World.size_alloc1, World.size_drew, Nat.reduceAdd] at hO); (try simp only [upd, updI, List.map_cons, List.map_nil, eq_self, if_true, if_false, reduceIte, Nat.add_eq_left, Nat.left_eq_add, Nat.reduceEqDiff, List.set_cons_zero, List.set_cons_succ, hG] at hO); clear hG; have hF := hO; (try simp only [Own, Item.Holds, apartI, CellsAt, Nat.reduceAdd, Nat.zero_add, List.mem_cons, List.not_mem_nil, or_false, forall_eq_or_imp, forall_eq, ne_eq, false_imp_iff, implies_true, and_true] at hF))
    go_ret2
    exact RowOutB.mk hO
  · have hm : meB b u = false := by rw [hvo] at hv; simpa using hv
    have HV := hid (voS_is hnl hs hn hvo)
    have HM := hid (meS_is hm)
    clear hs hnl hv hm hvo
    go_enter Tryd.func28, Tryd.ntmps28
    go_wp2_with fail
    replace hO := (hO.alloc (t := 24) (vs := [.int .i64 b, .int .i64 u])).allocRow (e := 46) (cur := #[]) (k := 0) (cap := 0) 6 (by omega) (by unfold maxLen; omega) rfl
    simp only [World.size_alloc1] at hO
    go_wp2_with (first | (go_at_call 55; apply own_at hO; (repeat (first | (with_reducible exact hO) | (with_reducible apply Own.alloc) | (with_reducible apply Own.drew) | ((with_reducible apply Own.set_at); (focus (show _ ≤ _; omega))))); have hG := hF; clear hF; clear hO; intro hO; refine own_call hO (fun hB => HV.out _ hB) ?_; clear hO; intro w1 hO; (try simp only [World.size_alloc1, World.size_drew, Nat.reduceAdd] at hO); (try simp only [upd, updI, List.map_cons, List.map_nil, eq_self, if_true, if_false, reduceIte, Nat.add_eq_left, Nat.left_eq_add, Nat.reduceEqDiff, List.set_cons_zero, List.set_cons_succ, hG] at hO); clear hG; have hF := hO; (try simp only [Own, Item.Holds, apartI, CellsAt, Nat.reduceAdd, Nat.zero_add, List.mem_cons, List.not_mem_nil, or_false, forall_eq_or_imp, forall_eq, ne_eq, false_imp_iff, implies_true, and_true] at hF)) | (go_at_call 17; apply own_at hO; (repeat (first | (with_reducible exact hO) | (with_reducible apply Own.alloc) | (with_reducible apply Own.drew) | ((with_reducible apply Own.set_at); (focus (show _ ≤ _; omega))))); have hG := hF; clear hF; clear hO; intro hO; refine own_call hO (fun hB => HM.out _) ?_; clear hO; intro w1 hO; (try simp only [World.size_alloc1, World.size_drew, Nat.reduceAdd] at hO); (try simp only [upd, updI, List.map_cons, List.map_nil, eq_self, if_true, if_false, reduceIte, Nat.add_eq_left, Nat.left_eq_add, Nat.reduceEqDiff, List.set_cons_zero, List.set_cons_succ, hG] at hO); clear hG; have hF := hO; (try simp only [Own, Item.Holds, apartI, CellsAt, Nat.reduceAdd, Nat.zero_add, List.mem_cons, List.not_mem_nil, or_false, forall_eq_or_imp, forall_eq, ne_eq, false_imp_iff, implies_true, and_true] at hF)))
    go_ret2
    exact RowOutB.mk hO

theorem spS_any (va : Value) (v : List Nt) (b u : Int) (w : World) (hs : SlAt w va v.length 6 (vcC v)) (hn : v.length ≤ 1048576) :
    Calls Tryd.prog 28 #[va, .agg #[.int .i64 b, .int .i64 u]] w (RowOutB 46 6 (ssL v b u).length (vcC (ssL v b u)) (spB v b u) w) := by
  cases hv : voB v && meB b u
  · have hb : spB v b u = false := by unfold spB; rw [hv]; rfl
    have hl : ssL v b u = [] := by unfold ssL; rw [hb]; rfl
    rw [hb, hl]
    exact spS_out va v b u _ w rfl hn hs hv
  · rw [Bool.and_eq_true] at hv
    exact spS_in va v b u _ w rfl hs hv.1 hv.2

/- Chapter 6 in the model: the last bar filled. -/
open Go.RowKit

theorem one6w (v : List Nt) : ∀ u ∈ vcC v, u.oneCell' = true := by
  intro u hu
  unfold vcC at hu
  obtain ⟨x, _, hx⟩ := List.mem_flatMap.1 hu
  exact one6 (x := x) u hx
theorem bcS_is {va : Value} {v : List Nt} {b u z : Int} {w : World} (ha : SlAt w va v.length 6 (vcC v)) (hn : v.length ≤ 1048576) (h : bcZ v b u = z) (W : World) (hW : Below w.heap.size w W) :
    Calls Tryd.prog 35 #[va, .agg #[.int .i64 b, .int .i64 u]] W fun e w' => e = .returned (.int .i64 z) ∧ Below W.heap.size W w' := by
  subst h
  exact bcS_any va v b u W (ha.below hW) hn

set_option maxHeartbeats 8000000 in
theorem fiS_in (va : Value) (v : List Nt) (b u : Int) (n : Nat) (w : World) (hnl : v.length = n) (hs : SlAt w va n 6 (vcC v)) (hv : voB v = true) (hm : meB b u = true) :
    Calls Tryd.prog 38 #[va, .agg #[.int .i64 b, .int .i64 u]] w (RowOutB 46 6 (fiL v b u).length (vcC (fiL v b u)) (fiB v b u) w) := by
  have hO := Own.start w
  have hF := True.intro
  obtain ⟨i0, hi0, hz0, hz1, hz2⟩ := info_parts infoN
  obtain ⟨A, c, rfl, nb, hA⟩ := hs.open
  have HA := hid hs
  have HN := hid hnl
  have hn60 : n ≤ 60 := by have := (voB_iff.1 hv).2; omega
  have HV := hid (voS_is hnl hs (by omega) hv)
  have HM := hid (meS_is hm)
  have HB := hid (btS_is (show btZ b u = baZ b u by unfold btZ; rw [hm]; rfl))
  have hb := ba_bd hm
  have hcb := bc_bd hv hm
  have hsb := sum_bd hv
  have hlb := lf_bd hv hm
  have HL := hid (show lfN v b u = bcN v b u * baZ b u - sumT v from rfl)
  have HE := hid (show fiB v b u = (lfN v b u == 0 || (decide (lfN v b u ≤ 768) && decide (v.length ≠ 60))) by simp [fiB, hv, hm])
  have HE2 := hid (show fiL v b u = if fiB v b u then (if lfN v b u = 0 then v else v ++ [⟨true, 0, 0, 0, lfN v b u, false⟩]) else [] from rfl)
  rw [← hnl] at hs
  have HC := hid (bcS_is hs (by omega) (show bcZ v b u = bcN v b u by simp [bcZ, hv, hm]))
  have HT := hid (vtS_is hs (by omega) (show vtZ v = sumT v by unfold vtZ; rw [hv]; rfl))
  rw [hnl] at hs HC HT HE
  obtain ⟨p, hp⟩ : ∃ p, baZ b u = p := ⟨_, rfl⟩
  obtain ⟨k, hk⟩ : ∃ k, bcN v b u = k := ⟨_, rfl⟩
  obtain ⟨s, hs'⟩ : ∃ s, sumT v = s := ⟨_, rfl⟩
  obtain ⟨l, hl⟩ : ∃ l, lfN v b u = l := ⟨_, rfl⟩
  rw [hp] at HB hb hcb hlb HL
  rw [hk] at HC hcb HL
  rw [hs'] at HT hsb hcb HL
  rw [hl] at HE HE2 hlb HL
  have w1 : IntKind.i64.wrap (k * p) = k * p := IntWalk.i64_in _ (by omega)
  have w2 : IntKind.i64.wrap (k * p - s) = l := by rw [← HL.out]; exact IntWalk.i64_in _ (by omega)
  clear hs hnl hv hm hp hk hs' hl hcb hA
  go_enter Tryd.func38, Tryd.ntmps38
  go_wp2_with (first | (go_at_call 55; apply own_at hO; (repeat (first | (with_reducible exact hO) | (with_reducible apply Own.alloc) | (with_reducible apply Own.drew) | ((with_reducible apply Own.set_at); (focus (show _ ≤ _; omega))))); have hG := hF; clear hF; clear hO; intro hO; refine own_call hO (fun hB => HV.out _ hB) ?_; clear hO; intro w1 hO; (try simp only [World.size_alloc1, World.size_drew, Nat.reduceAdd] at hO); (try simp only [upd, updI, List.map_cons, List.map_nil, eq_self, if_true, if_false, reduceIte, Nat.add_eq_left, Nat.left_eq_add, Nat.reduceEqDiff, List.set_cons_zero, List.set_cons_succ, hG] at hO); clear hG; have hF := hO; (try simp only [Own, Item.Holds, apartI, CellsAt, Nat.reduceAdd, Nat.zero_add, List.mem_cons, List.not_mem_nil, or_false, forall_eq_or_imp, forall_eq, ne_eq, false_imp_iff, implies_true, and_true] at hF)) | (go_at_call 17; apply own_at hO; (repeat (first | (with_reducible exact hO) | (with_reducible apply Own.alloc) | (with_reducible apply Own.drew) | ((with_reducible apply Own.set_at); (focus (show _ ≤ _; omega))))); have hG := hF; clear hF; clear hO; intro hO; refine own_call hO (fun hB => HM.out _) ?_; clear hO; intro w1 hO; (try simp only [World.size_alloc1, World.size_drew, Nat.reduceAdd] at hO); (try simp only [upd, updI, List.map_cons, List.map_nil, eq_self, if_true, if_false, reduceIte, Nat.add_eq_left, Nat.left_eq_add, Nat.reduceEqDiff, List.set_cons_zero, List.set_cons_succ, hG] at hO); clear hG; have hF := hO; (try simp only [Own, Item.Holds, apartI, CellsAt, Nat.reduceAdd, Nat.zero_add, List.mem_cons, List.not_mem_nil, or_false, forall_eq_or_imp, forall_eq, ne_eq, false_imp_iff, implies_true, and_true] at hF)))
  apply own_code hO
  (repeat (first | (with_reducible exact hO) | (with_reducible apply Own.alloc) | (with_reducible apply Own.drew) | ((with_reducible apply Own.set_at); (focus (show _ ≤ _; omega)))))
  have hG := hF; clear hF; clear hO; intro hO
  (try simp only [World.size_alloc1, World.size_drew, Nat.reduceAdd] at hO); (try simp only [upd, updI, List.map_cons, List.map_nil, eq_self, if_true, if_false, reduceIte, Nat.add_eq_left, Nat.left_eq_add, Nat.reduceEqDiff, List.set_cons_zero, List.set_cons_succ, hG] at hO); clear hG
  refine region_own (X := fun _ => True) [] (by kernel_rfl) (hO) (trivial) (by first | exact XStab.true | exact XStab.rd | exact XStab.rdIf) ?_
  clear hO
  refine Sim.takeP (i := 0) (d := some 17) (v := ?_) rfl rfl (by kernel_rfl) (by kernel_rfl) (by kernel_rfl) (fun _ _ _ h => h) (by first | exact XStab.true | exact XStab.rd | exact XStab.rdIf) ?_ ?_
  rotate_left
  · first | refine Or.inl ⟨by rfl, fun w => ?_⟩ | (refine Or.inr ⟨by rfl, ?_⟩; with_reducible rfl)
    first | done | (go_simp; all_goals with_reducible rfl)
  try simp only [Act.put, List.setIfInBounds_toArray, List.set_cons_zero, List.set_cons_succ]
  refine Sim.take (i := 1) (d := some 18) (v := ?_) rfl rfl (by kernel_rfl) (by kernel_rfl) (by kernel_rfl) (by kernel_rfl) (fun _ _ _ h => h) (by first | exact XStab.true | exact XStab.rd | exact XStab.rdIf) ?_ ?_
  rotate_left
  · first | refine Or.inl ⟨by rfl, fun w hO => ?_⟩ | (refine Or.inr ⟨by rfl, ?_⟩; with_reducible rfl)
    first | done | (have hF := hO; (try simp only [Own, Item.Holds, apartI, CellsAt, Nat.reduceAdd, Nat.zero_add, List.mem_cons, List.not_mem_nil, or_false, forall_eq_or_imp, forall_eq, ne_eq, false_imp_iff, implies_true, and_true] at hF); refine Out.same ?_; go_simp; all_goals with_reducible rfl)
  try simp only [Act.put, List.setIfInBounds_toArray, List.set_cons_zero, List.set_cons_succ]
  refine Sim.take (i := 2) (d := some 19) (v := ?_) rfl rfl (by kernel_rfl) (by kernel_rfl) (by kernel_rfl) (by kernel_rfl) (fun _ _ _ h => h) (by first | exact XStab.true | exact XStab.rd | exact XStab.rdIf) ?_ ?_
  rotate_left
  · first | refine Or.inl ⟨by rfl, fun w hO => ?_⟩ | (refine Or.inr ⟨by rfl, ?_⟩; with_reducible rfl)
    first | done | (refine Out.call (f := 35) (args := ?_) ?_ ?_; rotate_left; (focus (go_simp; all_goals with_reducible rfl)); exact HC.out _ hO.base)
  try simp only [Act.put, List.setIfInBounds_toArray, List.set_cons_zero, List.set_cons_succ]
  refine Sim.take (i := 3) (d := some 20) (v := ?_) rfl rfl (by kernel_rfl) (by kernel_rfl) (by kernel_rfl) (by kernel_rfl) (fun _ _ _ h => h) (by first | exact XStab.true | exact XStab.rd | exact XStab.rdIf) ?_ ?_
  rotate_left
  · first | refine Or.inl ⟨by rfl, fun w hO => ?_⟩ | (refine Or.inr ⟨by rfl, ?_⟩; with_reducible rfl)
    first | done | (have hF := hO; (try simp only [Own, Item.Holds, apartI, CellsAt, Nat.reduceAdd, Nat.zero_add, List.mem_cons, List.not_mem_nil, or_false, forall_eq_or_imp, forall_eq, ne_eq, false_imp_iff, implies_true, and_true] at hF); refine Out.same ?_; go_simp; all_goals with_reducible rfl)
  try simp only [Act.put, List.setIfInBounds_toArray, List.set_cons_zero, List.set_cons_succ]
  refine Sim.take (i := 4) (d := some 21) (v := ?_) rfl rfl (by kernel_rfl) (by kernel_rfl) (by kernel_rfl) (by kernel_rfl) (fun _ _ _ h => h) (by first | exact XStab.true | exact XStab.rd | exact XStab.rdIf) ?_ ?_
  rotate_left
  · first | refine Or.inl ⟨by rfl, fun w hO => ?_⟩ | (refine Or.inr ⟨by rfl, ?_⟩; with_reducible rfl)
    first | done | (refine Out.call (f := 21) (args := ?_) ?_ ?_; rotate_left; (focus (go_simp; all_goals with_reducible rfl)); exact HB.out _)
  try simp only [Act.put, List.setIfInBounds_toArray, List.set_cons_zero, List.set_cons_succ]
  refine Sim.takeP (i := 5) (d := some 22) (v := ?_) rfl rfl (by kernel_rfl) (by kernel_rfl) (by kernel_rfl) (fun _ _ _ h => h) (by first | exact XStab.true | exact XStab.rd | exact XStab.rdIf) ?_ ?_
  rotate_left
  · first | refine Or.inl ⟨by rfl, fun w => ?_⟩ | (refine Or.inr ⟨by rfl, ?_⟩; with_reducible rfl)
    first | done | (go_simp; all_goals with_reducible rfl)
  try simp only [Act.put, List.setIfInBounds_toArray, List.set_cons_zero, List.set_cons_succ]
  refine Sim.takeP (i := 6) (d := some 23) (v := ?_) rfl rfl (by kernel_rfl) (by kernel_rfl) (by kernel_rfl) (fun _ _ _ h => h) (by first | exact XStab.true | exact XStab.rd | exact XStab.rdIf) ?_ ?_
  rotate_left
  · first | refine Or.inl ⟨by rfl, fun w => ?_⟩ | (refine Or.inr ⟨by rfl, ?_⟩; with_reducible rfl)
    first | done | (go_simp; all_goals with_reducible rfl)
  try simp only [Act.put, List.setIfInBounds_toArray, List.set_cons_zero, List.set_cons_succ]
  refine Sim.take (i := 7) (d := some 24) (v := ?_) rfl rfl (by kernel_rfl) (by kernel_rfl) (by kernel_rfl) (by kernel_rfl) (fun _ _ _ h => h) (by first | exact XStab.true | exact XStab.rd | exact XStab.rdIf) ?_ ?_
  rotate_left
  · first | refine Or.inl ⟨by rfl, fun w hO => ?_⟩ | (refine Or.inr ⟨by rfl, ?_⟩; with_reducible rfl)
    first | done | (refine Out.call (f := 61) (args := ?_) ?_ ?_; rotate_left; (focus (go_simp; all_goals with_reducible rfl)); exact HT.out _ hO.base)
  try simp only [Act.put, List.setIfInBounds_toArray, List.set_cons_zero, List.set_cons_succ]
  refine Sim.takeP (i := 8) (d := some 25) (v := ?_) rfl rfl (by kernel_rfl) (by kernel_rfl) (by kernel_rfl) (fun _ _ _ h => h) (by first | exact XStab.true | exact XStab.rd | exact XStab.rdIf) ?_ ?_
  rotate_left
  · first | refine Or.inl ⟨by rfl, fun w => ?_⟩ | (refine Or.inr ⟨by rfl, ?_⟩; with_reducible rfl)
    first | done | (go_simp; all_goals with_reducible rfl)
  try simp only [Act.put, List.setIfInBounds_toArray, List.set_cons_zero, List.set_cons_succ]
  refine Sim.takeP (i := 9) (d := some 6) (v := ?_) rfl rfl (by kernel_rfl) (by kernel_rfl) (by kernel_rfl) (fun _ _ _ h => h) (by first | exact XStab.true | exact XStab.rd | exact XStab.rdIf) ?_ ?_
  rotate_left
  · first | refine Or.inl ⟨by rfl, fun w => ?_⟩ | (refine Or.inr ⟨by rfl, ?_⟩; with_reducible rfl)
    first | done | (go_simp; all_goals with_reducible rfl)
  try simp only [Act.put, List.setIfInBounds_toArray, List.set_cons_zero, List.set_cons_succ]
  refine Sim.done (by kernel_rfl) (fun w1 hO hX => ?_) _
  (try simp only [World.size_alloc1, World.size_drew, Nat.reduceAdd] at hO); (try simp only [upd, updI, List.map_cons, List.map_nil, eq_self, if_true, if_false, reduceIte, Nat.add_eq_left, Nat.left_eq_add, Nat.reduceEqDiff, List.set_cons_zero, List.set_cons_succ] at hO)
  have hF := hO; (try simp only [Own, Item.Holds, apartI, CellsAt, Nat.reduceAdd, Nat.zero_add, List.mem_cons, List.not_mem_nil, or_false, forall_eq_or_imp, forall_eq, ne_eq, false_imp_iff, implies_true, and_true] at hF)
  have HS := hid (HA.out.below hO.base)
  by_cases h0 : l = 0
  · subst h0
    have HE3 := hid (show fiB v b u = true ∧ fiL v b u = v by
      have e : fiB v b u = true := by rw [HE.out]; rfl
      exact ⟨e, by rw [HE2.out, e]; rfl⟩)
    go_wp2_with (at_builtin; refine wpList_append_slice rfl _ _ 37 rfl 46 i0 (.agg #[.bool false, .int .i64 0, .int .i64 0, .int .i64 0, .int .i64 0, .bool false]) 6 48 Tryd.underlying37 hi0 hz0 hz1 hz2 rfl (by decide) rfl rfl (hO.allocRow (cur := #[]) (k := 0) (cap := 0) 6 (by omega) (by unfold maxLen; omega) rfl) (HS.out.below (below1 _)) (one6w v) (by unfold maxLen; omega) (by omega) ?_; clear hO hF; intro v' w3 hO; have hF := True.intro)
    go_ret2
    rw [HE3.out.1, HE3.out.2, HN.out]
    simp only [Nat.zero_mul, List.take_nil, List.nil_append, Nat.zero_add] at hO
    exact RowOutB.mk hO
  · have l0 : ¬ l = 0 := h0
    by_cases h7 : l ≤ 768
    · by_cases h6 : n = 60
      · have HE3 := hid (show fiB v b u = false ∧ fiL v b u = [] by
          have e : fiB v b u = false := by
            rw [HE.out]
            simp [h0, HN.out, h6]
          exact ⟨e, by rw [HE2.out, e]; rfl⟩)
        have n6 : (n : Int) = 60 := by omega
        have l7 : ¬ 768 < l := by omega
        go_wp2_with (at_builtin; refine wpList_append_slice rfl _ _ 37 rfl 46 i0 (.agg #[.bool false, .int .i64 0, .int .i64 0, .int .i64 0, .int .i64 0, .bool false]) 6 48 Tryd.underlying37 hi0 hz0 hz1 hz2 rfl (by decide) rfl rfl (hO.allocRow (cur := #[]) (k := 0) (cap := 0) 6 (by omega) (by unfold maxLen; omega) rfl) (HS.out.below (below1 _)) (one6w v) (by unfold maxLen; omega) (by omega) ?_; clear hO hF; intro v' w3 hO; have hF := True.intro; simp only [Nat.zero_mul, List.take_nil, List.nil_append, Nat.zero_add] at hO; clear HS)
        go_ret2
        rw [HE3.out.1, HE3.out.2]
        have hO2 := hO.allocRow (e := 46) (cur := #[]) (k := 0) (cap := 0) 6 (by omega) (by unfold maxLen; omega) rfl
        exact RowOutB.mk hO2
      · have HE3 := hid (show fiB v b u = true ∧ fiL v b u = v ++ [⟨true, 0, 0, 0, l, false⟩] by
          have e : fiB v b u = true := by
            rw [HE.out]
            simp [h7, HN.out, h6]
          exact ⟨e, by rw [HE2.out, e, if_pos rfl, if_neg h0]⟩)
        have n6 : ¬ (n : Int) = 60 := by omega
        have l7 : ¬ 768 < l := by omega
        go_wp2_with (first | (at_builtin; refine wpList_append_slice rfl _ _ 37 rfl 46 i0 (.agg #[.bool false, .int .i64 0, .int .i64 0, .int .i64 0, .int .i64 0, .bool false]) 6 48 Tryd.underlying37 hi0 hz0 hz1 hz2 rfl (by decide) rfl rfl (hO.allocRow (cur := #[]) (k := 0) (cap := 0) 6 (by omega) (by unfold maxLen; omega) rfl) (HS.out.below (below1 _)) (one6w v) (by unfold maxLen; omega) (by omega) ?_; clear hO hF; intro v' w3 hO; have hF := True.intro; simp only [Nat.zero_mul, List.take_nil, List.nil_append, Nat.zero_add] at hO; clear HS) | (at_builtin; apply own_list hO; (repeat (first | (with_reducible exact hO) | (with_reducible apply Own.alloc) | (with_reducible apply Own.drew) | ((with_reducible apply Own.set_at); (focus (show _ ≤ _; omega))))); have hG := hF; clear hF; clear hO; intro hO; (try simp only [World.size_alloc1, World.size_drew, Nat.reduceAdd] at hO); (try simp only [upd, updI, List.map_cons, List.map_nil, eq_self, if_true, if_false, reduceIte, Nat.add_eq_left, Nat.left_eq_add, Nat.reduceEqDiff, List.set_cons_zero, List.set_cons_succ, hG] at hO); clear hG; (try simp only [World.size_setCell] at hO); have hF := hO; (try simp only [Own, Item.Holds, apartI, CellsAt, Nat.reduceAdd, Nat.zero_add, List.mem_cons, List.not_mem_nil, or_false, forall_eq_or_imp, forall_eq, ne_eq, false_imp_iff, implies_true, and_true] at hF); refine wpList_append_item rfl _ _ 37 rfl 46 i0 (.agg #[.bool false, .int .i64 0, .int .i64 0, .int .i64 0, .int .i64 0, .bool false]) 6 48 Tryd.underlying37 hi0 hz0 hz1 hz2 rfl (by decide) rfl rfl hO rfl one6g (by unfold maxLen; omega) (by omega) ?_; clear hO hF; intro v'' w4 hO _; have hF := True.intro))
        go_ret2
        rw [HE3.out.1, HE3.out.2, List.length_append, HN.out, ← vcC_snoc]
        exact RowOutB.mk hO
    · have HE3 := hid (show fiB v b u = false ∧ fiL v b u = [] by
        have e : fiB v b u = false := by
          rw [HE.out]
          simp [h0, h7]
        exact ⟨e, by rw [HE2.out, e]; rfl⟩)
      have l7 : 768 < l := by omega
      go_wp2_with (at_builtin; refine wpList_append_slice rfl _ _ 37 rfl 46 i0 (.agg #[.bool false, .int .i64 0, .int .i64 0, .int .i64 0, .int .i64 0, .bool false]) 6 48 Tryd.underlying37 hi0 hz0 hz1 hz2 rfl (by decide) rfl rfl (hO.allocRow (cur := #[]) (k := 0) (cap := 0) 6 (by omega) (by unfold maxLen; omega) rfl) (HS.out.below (below1 _)) (one6w v) (by unfold maxLen; omega) (by omega) ?_; clear hO hF; intro v' w3 hO; have hF := True.intro; simp only [Nat.zero_mul, List.take_nil, List.nil_append, Nat.zero_add] at hO; clear HS)
      go_ret2
      rw [HE3.out.1, HE3.out.2]
      have hO2 := hO.allocRow (e := 46) (cur := #[]) (k := 0) (cap := 0) 6 (by omega) (by unfold maxLen; omega) rfl
      exact RowOutB.mk hO2

set_option maxHeartbeats 4000000 in
theorem fiS_out (va : Value) (v : List Nt) (b u : Int) (n : Nat) (w : World) (hnl : v.length = n) (hn : n ≤ 1048576) (hs : SlAt w va n 6 (vcC v)) (hv : (voB v && meB b u) = false) :
    Calls Tryd.prog 38 #[va, .agg #[.int .i64 b, .int .i64 u]] w (RowOutB 46 6 0 [] false w) := by
  have hO := Own.start w
  have hF := True.intro
  cases hvo : voB v
  · have HV := hid (voS_is hnl hs hn hvo)
    clear hs hnl hv hvo
    go_enter Tryd.func38, Tryd.ntmps38
    go_wp2_with (go_at_call 55; apply own_at hO; (repeat (first | (with_reducible exact hO) | (with_reducible apply Own.alloc) | (with_reducible apply Own.drew) | ((with_reducible apply Own.set_at); (focus (show _ ≤ _; omega))))); have hG := hF; clear hF; clear hO; intro hO; refine own_call hO (fun hB => HV.out _ hB) ?_; clear hO; intro w1 hO; (try simp only [World.size_alloc1, World.size_drew, Nat.reduceAdd] at hO); (try simp only [upd, updI, List.map_cons, List.map_nil, eq_self, if_true, if_false, reduceIte, Nat.add_eq_left, Nat.left_eq_add, Nat.reduceEqDiff, List.set_cons_zero, List.set_cons_succ, hG] at hO); clear hG; have hF := hO; (try simp only [Own, Item.Holds, apartI, CellsAt, Nat.reduceAdd, Nat.zero_add, List.mem_cons, List.not_mem_nil, or_false, forall_eq_or_imp, forall_eq, ne_eq, false_imp_iff, implies_true, and_true] at hF))
    go_ret2
    exact RowOutB.mk (hO.allocRow (e := 46) (cur := #[]) (k := 0) (cap := 0) 6 (by omega) (by unfold maxLen; omega) rfl)
  · have hm : meB b u = false := by rw [hvo] at hv; simpa using hv
    have HV := hid (voS_is hnl hs hn hvo)
    have HM := hid (meS_is hm)
    clear hs hnl hv hm hvo
    go_enter Tryd.func38, Tryd.ntmps38
    go_wp2_with (first | (go_at_call 55; apply own_at hO; (repeat (first | (with_reducible exact hO) | (with_reducible apply Own.alloc) | (with_reducible apply Own.drew) | ((with_reducible apply Own.set_at); (focus (show _ ≤ _; omega))))); have hG := hF; clear hF; clear hO; intro hO; refine own_call hO (fun hB => HV.out _ hB) ?_; clear hO; intro w1 hO; (try simp only [World.size_alloc1, World.size_drew, Nat.reduceAdd] at hO); (try simp only [upd, updI, List.map_cons, List.map_nil, eq_self, if_true, if_false, reduceIte, Nat.add_eq_left, Nat.left_eq_add, Nat.reduceEqDiff, List.set_cons_zero, List.set_cons_succ, hG] at hO); clear hG; have hF := hO; (try simp only [Own, Item.Holds, apartI, CellsAt, Nat.reduceAdd, Nat.zero_add, List.mem_cons, List.not_mem_nil, or_false, forall_eq_or_imp, forall_eq, ne_eq, false_imp_iff, implies_true, and_true] at hF)) | (go_at_call 17; apply own_at hO; (repeat (first | (with_reducible exact hO) | (with_reducible apply Own.alloc) | (with_reducible apply Own.drew) | ((with_reducible apply Own.set_at); (focus (show _ ≤ _; omega))))); have hG := hF; clear hF; clear hO; intro hO; refine own_call hO (fun hB => HM.out _) ?_; clear hO; intro w1 hO; (try simp only [World.size_alloc1, World.size_drew, Nat.reduceAdd] at hO); (try simp only [upd, updI, List.map_cons, List.map_nil, eq_self, if_true, if_false, reduceIte, Nat.add_eq_left, Nat.left_eq_add, Nat.reduceEqDiff, List.set_cons_zero, List.set_cons_succ, hG] at hO); clear hG; have hF := hO; (try simp only [Own, Item.Holds, apartI, CellsAt, Nat.reduceAdd, Nat.zero_add, List.mem_cons, List.not_mem_nil, or_false, forall_eq_or_imp, forall_eq, ne_eq, false_imp_iff, implies_true, and_true] at hF)))
    go_ret2
    exact RowOutB.mk (hO.allocRow (e := 46) (cur := #[]) (k := 0) (cap := 0) 6 (by omega) (by unfold maxLen; omega) rfl)

theorem fiS_any (va : Value) (v : List Nt) (b u : Int) (w : World) (hs : SlAt w va v.length 6 (vcC v)) (hn : v.length ≤ 1048576) :
    Calls Tryd.prog 38 #[va, .agg #[.int .i64 b, .int .i64 u]] w (RowOutB 46 6 (fiL v b u).length (vcC (fiL v b u)) (fiB v b u) w) := by
  cases hv : voB v && meB b u
  · have hb : fiB v b u = false := by unfold fiB; rw [hv]; rfl
    have hl : fiL v b u = [] := by unfold fiL; rw [hb]; rfl
    rw [hb, hl]
    exact fiS_out va v b u _ w rfl hn hs hv
  · rw [Bool.and_eq_true] at hv
    exact fiS_in va v b u _ w rfl hs hv.1 hv.2
end Go.Proofs.YtcifmpjefhichaaDoor
