/- The functions that draw for a law of chapter 9: instruments; instruments and voices. -/
import Derived.Test.YtcgcnkddgihkpaaDoorDrawsVo
import Derived.Test.YtcgcnkddgihkpaaDoorPure9
import Derived.Test.YtcgcnkddgihkpaaDoorRegionD
namespace Go.Proofs.YtcgcnkddgihkpaaDoor
set_option linter.unusedSimpArgs false
set_option linter.unusedVariables false
set_option maxRecDepth 8000
open Go.RowKit

/-- What an instrument that was drawn is. -/
def insOk (st ha lo hi : Int) : Prop := (-100 ≤ st ∧ st ≤ 100) ∧ (-9223372036854775807 ≤ ha ∧ ha ≤ 9223372036854775807) ∧ (-1 ≤ lo ∧ lo ≤ 200) ∧ (0 ≤ hi ∧ hi ≤ 200)
def DrewIn (r : Nat) (P : Int) (w : World) (e : Ending) (w' : World) : Prop :=
  ∃ st ha lo hi : Int, insOk st ha lo hi ∧ e = .returned (.agg #[.int .i64 st, .int .i64 ha, .int .i64 lo, .int .i64 hi]) ∧ Rd w' r (P + 60) ∧ ButR r w w'
def XR9 (r : Nat) (P : Int) : Nat → World → Prop
  | 0 => fun w => Rd w r P
  | _ + 1 => fun _ => True
theorem sel_two {x a c y : Int} (h : sel x a c = y) : y = a ∨ y = c := by
  unfold sel at h
  split at h
  · exact Or.inl h.symm
  · exact Or.inr h.symm
theorem own_way {r : Nat} {w0 W : World} {P n : Int} {L : List Item} {K : Ending → World → Prop} (hO : Own w0.heap.size (Bd r w0 P) W L) (hr : r < w0.heap.size) (hP : P ≤ 800000) (n0 : 0 ≤ n) (n1 : n ≤ 1000000)
    (h : ∀ (st ha : Int) w1, (-100 ≤ st ∧ st ≤ 100) → (-9223372036854775807 ≤ ha ∧ ha ≤ 9223372036854775807) → Own w0.heap.size (Bd r w0 (P + 20)) w1 L → K (.returned (.agg #[.int .i64 st, .int .i64 ha])) w1) :
    Calls Tryd.prog 69 #[.pointer (some ⟨r, 0, none⟩), .int .i64 n] W K :=
  (l20Way_any r P n W hO.base.2 (by omega) n0 n1).mono fun e w1 ⟨st, ha, h1, h2, he, hR, hb⟩ => by
    subst he
    exact h st ha w1 h1 h2 (hO.but hr (Stab.bd hr) ⟨hO.base.1.trans hb, hR⟩ hb)

set_option maxRecDepth 8000 in
set_option maxHeartbeats 8000000 in
theorem l20Instrument_any (r : Nat) (P n : Int) (w : World) (h : Rd w r P) (hP : P ≤ 700000) (n0 : 0 ≤ n) (n1 : n ≤ 1000000) :
    Calls Tryd.prog 72 #[.pointer (some ⟨r, 0, none⟩), .int .i64 n] w (DrewIn r P w) := by
  have hr0 := h.lt
  have hO := Own.startD h
  have hF := True.intro
  clear h
  go_enter Tryd.func72, Tryd.ntmps72
  go_wp2_with fail
  (go_at_call 51; apply own_at hO; (repeat (first | (with_reducible exact hO) | (with_reducible apply Own.alloc) | (with_reducible apply Own.drew) | ((with_reducible apply Own.set_at); (focus (show _ ≤ _; omega))))); have hG := hF; clear hF; clear hO; intro hO; refine own_pick (k := 24) hO hr0 (by omega) (by omega) (by omega) ?_; clear hO; intro x w1 x0 x1 hO; (try simp only [World.size_alloc1, World.size_drew, Nat.reduceAdd] at hO); (try simp only [upd, updI, List.map_cons, List.map_nil, eq_self, if_true, if_false, reduceIte, Nat.add_eq_left, Nat.left_eq_add, Nat.reduceEqDiff, List.set_cons_zero, List.set_cons_succ, hG] at hO); clear hG; have hF := hO; (try simp only [Own, Item.Holds, apartI, CellsAt, Nat.reduceAdd, Nat.zero_add, List.mem_cons, List.not_mem_nil, or_false, forall_eq_or_imp, forall_eq, ne_eq, false_imp_iff, implies_true, and_true] at hF))
  obtain ⟨lo, hlo⟩ : ∃ b, 24 + x = b := ⟨_, rfl⟩
  have wb : IntKind.i64.wrap (24 + x) = lo := by rw [hlo]; exact IntWalk.i64_in _ (by omega)
  have bb : 24 ≤ lo ∧ lo ≤ 47 := by omega
  clear hlo x0 x1
  go_wp2_with fail
  (go_at_call 69; apply own_at hO; (repeat (first | (with_reducible exact hO) | (with_reducible apply Own.alloc) | (with_reducible apply Own.drew) | ((with_reducible apply Own.set_at); (focus (show _ ≤ _; omega))))); have hG := hF; clear hF; clear hO; intro hO; refine own_way hO hr0 (by omega) (by omega) (by omega) ?_; clear hO; intro st ha w1 h1 h2 hO; (try simp only [World.size_alloc1, World.size_drew, Nat.reduceAdd] at hO); (try simp only [upd, updI, List.map_cons, List.map_nil, eq_self, if_true, if_false, reduceIte, Nat.add_eq_left, Nat.left_eq_add, Nat.reduceEqDiff, List.set_cons_zero, List.set_cons_succ, hG] at hO); clear hG; have hF := hO; (try simp only [Own, Item.Holds, apartI, CellsAt, Nat.reduceAdd, Nat.zero_add, List.mem_cons, List.not_mem_nil, or_false, forall_eq_or_imp, forall_eq, ne_eq, false_imp_iff, implies_true, and_true] at hF))
  go_wp2_with fail
  (go_at_call 51; apply own_at hO; (repeat (first | (with_reducible exact hO) | (with_reducible apply Own.alloc) | (with_reducible apply Own.drew) | ((with_reducible apply Own.set_at); (focus (show _ ≤ _; omega))))); have hG := hF; clear hF; clear hO; intro hO; refine own_pick (k := 40) hO hr0 (by omega) (by omega) (by omega) ?_; clear hO; intro x w1 x0 x1 hO; (try simp only [World.size_alloc1, World.size_drew, Nat.reduceAdd] at hO); (try simp only [upd, updI, List.map_cons, List.map_nil, eq_self, if_true, if_false, reduceIte, Nat.add_eq_left, Nat.left_eq_add, Nat.reduceEqDiff, List.set_cons_zero, List.set_cons_succ, hG] at hO); clear hG; have hF := hO; (try simp only [Own, Item.Holds, apartI, CellsAt, Nat.reduceAdd, Nat.zero_add, List.mem_cons, List.not_mem_nil, or_false, forall_eq_or_imp, forall_eq, ne_eq, false_imp_iff, implies_true, and_true] at hF))
  obtain ⟨hi, hhi⟩ : ∃ b, lo + x = b := ⟨_, rfl⟩
  have wh : IntKind.i64.wrap (lo + x) = hi := by rw [hhi]; exact IntWalk.i64_in _ (by omega)
  have bh : 24 ≤ hi ∧ hi ≤ 86 := by omega
  clear hhi x0 x1 wb
  go_upto_region 3 with fail
  (apply own_code hO; (repeat (first | (with_reducible exact hO) | (with_reducible apply Own.alloc) | (with_reducible apply Own.drew) | ((with_reducible apply Own.set_at); (focus (show _ ≤ _; omega))))); have hG := hF; clear hF; clear hO; intro hO; (try simp only [World.size_alloc1, World.size_drew, Nat.reduceAdd] at hO); (try simp only [upd, updI, List.map_cons, List.map_nil, eq_self, if_true, if_false, reduceIte, Nat.add_eq_left, Nat.left_eq_add, Nat.reduceEqDiff, List.set_cons_zero, List.set_cons_succ, hG] at hO); clear hG; have hF := hO; (try simp only [Own, Item.Holds, apartI, CellsAt, Nat.reduceAdd, Nat.zero_add, List.mem_cons, List.not_mem_nil, or_false, forall_eq_or_imp, forall_eq, ne_eq, false_imp_iff, implies_true, and_true] at hF))
  obtain ⟨q, hq⟩ : ∃ q, w1.heap.size = q := ⟨_, rfl⟩
  rw [hq] at hO ⊢
  clear hq hF wh
  have hF := hO; (try simp only [Own, Item.Holds, apartI, CellsAt, Nat.reduceAdd, Nat.zero_add, List.mem_cons, List.not_mem_nil, or_false, forall_eq_or_imp, forall_eq, ne_eq, false_imp_iff, implies_true, and_true] at hF)
  go_wp2_with fail
  (go_at_call 77; apply own_at hO; (repeat (first | (with_reducible exact hO) | (with_reducible apply Own.alloc) | (with_reducible apply Own.drew) | ((with_reducible apply Own.set_at); (focus (show _ ≤ _; omega))))); have hG := hF; clear hF; clear hO; intro hO; refine own_odd hO hr0 (by omega) (by omega) (by omega) ?_; clear hO; intro x w1 hO; (try simp only [World.size_alloc1, World.size_drew, Nat.reduceAdd] at hO); (try simp only [upd, updI, List.map_cons, List.map_nil, eq_self, if_true, if_false, reduceIte, Nat.add_eq_left, Nat.left_eq_add, Nat.reduceEqDiff, List.set_cons_zero, List.set_cons_succ, hG] at hO); clear hG; have hF := hO; (try simp only [Own, Item.Holds, apartI, CellsAt, Nat.reduceAdd, Nat.zero_add, List.mem_cons, List.not_mem_nil, or_false, forall_eq_or_imp, forall_eq, ne_eq, false_imp_iff, implies_true, and_true] at hF))
  cases x
  · go_wp2_with fail
    apply own_end hO
    (repeat (first | (with_reducible exact hO) | (with_reducible apply Own.alloc) | (with_reducible apply Own.drew) | ((with_reducible apply Own.set_at); (focus (show _ ≤ _; omega)))))
    have hG := hF; clear hF; clear hO; intro hO
    refine own_ret (v := .agg #[.int .i64 st, .int .i64 ha, .int .i64 lo, .int .i64 hi]) hO ?_ rfl (fun hO => ⟨st, ha, lo, hi, ⟨h1, h2, by omega, by omega⟩, rfl, hO.base.2.mono (by omega), hO.base.1⟩)
    clear hO; intro w1 hO
    (try simp only [World.size_alloc1, World.size_drew, Nat.reduceAdd] at hO); (try simp only [upd, updI, List.map_cons, List.map_nil, eq_self, if_true, if_false, reduceIte, Nat.add_eq_left, Nat.left_eq_add, Nat.reduceEqDiff, List.set_cons_zero, List.set_cons_succ, hG] at hO); clear hG
    have hF := hO; (try simp only [Own, Item.Holds, apartI, CellsAt, Nat.reduceAdd, Nat.zero_add, List.mem_cons, List.not_mem_nil, or_false, forall_eq_or_imp, forall_eq, ne_eq, false_imp_iff, implies_true, and_true] at hF)
    simp [results, Tryd.results72, go_sem, hF]
  · go_wp2_with fail
    (go_at_call 51; apply own_at hO; (repeat (first | (with_reducible exact hO) | (with_reducible apply Own.alloc) | (with_reducible apply Own.drew) | ((with_reducible apply Own.set_at); (focus (show _ ≤ _; omega))))); have hG := hF; clear hF; clear hO; intro hO; refine own_pick (k := 3) hO hr0 (by omega) (by omega) (by omega) ?_; clear hO; intro x w1 x0 x1 hO; (try simp only [World.size_alloc1, World.size_drew, Nat.reduceAdd] at hO); (try simp only [upd, updI, List.map_cons, List.map_nil, eq_self, if_true, if_false, reduceIte, Nat.add_eq_left, Nat.left_eq_add, Nat.reduceEqDiff, List.set_cons_zero, List.set_cons_succ, hG] at hO); clear hG; have hF := hO; (try simp only [Own, Item.Holds, apartI, CellsAt, Nat.reduceAdd, Nat.zero_add, List.mem_cons, List.not_mem_nil, or_false, forall_eq_or_imp, forall_eq, ne_eq, false_imp_iff, implies_true, and_true] at hF))
    rcases (show x = 0 ∨ x = 1 ∨ x = 2 by omega) with rfl | rfl | rfl
    · clear x0 x1
      go_wp2_with fail
      (go_at_call 69; apply own_at hO; (repeat (first | (with_reducible exact hO) | (with_reducible apply Own.alloc) | (with_reducible apply Own.drew) | ((with_reducible apply Own.set_at); (focus (show _ ≤ _; omega))))); have hG := hF; clear hF; clear hO; intro hO; refine own_way hO hr0 (by omega) (by omega) (by omega) ?_; clear hO; intro st' ha' w1 h3 h4 hO; (try simp only [World.size_alloc1, World.size_drew, Nat.reduceAdd] at hO); (try simp only [upd, updI, List.map_cons, List.map_nil, eq_self, if_true, if_false, reduceIte, Nat.add_eq_left, Nat.left_eq_add, Nat.reduceEqDiff, List.set_cons_zero, List.set_cons_succ, hG] at hO); clear hG; have hF := hO; (try simp only [Own, Item.Holds, apartI, CellsAt, Nat.reduceAdd, Nat.zero_add, List.mem_cons, List.not_mem_nil, or_false, forall_eq_or_imp, forall_eq, ne_eq, false_imp_iff, implies_true, and_true] at hF))
      go_wp2_with fail
      apply own_end hO
      (repeat (first | (with_reducible exact hO) | (with_reducible apply Own.alloc) | (with_reducible apply Own.drew) | ((with_reducible apply Own.set_at); (focus (show _ ≤ _; omega)))))
      have hG := hF; clear hF; clear hO; intro hO
      refine own_ret (v := .agg #[.int .i64 st', .int .i64 ha', .int .i64 lo, .int .i64 hi]) hO ?_ rfl (fun hO => ⟨st', ha', lo, hi, ⟨h3, h4, by omega, by omega⟩, rfl, hO.base.2.mono (by omega), hO.base.1⟩)
      clear hO; intro w1 hO
      (try simp only [World.size_alloc1, World.size_drew, Nat.reduceAdd] at hO); (try simp only [upd, updI, List.map_cons, List.map_nil, eq_self, if_true, if_false, reduceIte, Nat.add_eq_left, Nat.left_eq_add, Nat.reduceEqDiff, List.set_cons_zero, List.set_cons_succ, hG] at hO); clear hG
      have hF := hO; (try simp only [Own, Item.Holds, apartI, CellsAt, Nat.reduceAdd, Nat.zero_add, List.mem_cons, List.not_mem_nil, or_false, forall_eq_or_imp, forall_eq, ne_eq, false_imp_iff, implies_true, and_true] at hF)
      simp [results, Tryd.results72, go_sem, hF]
    · clear x0 x1
      replace hO := hO.mono (Q := P + 30) hr0 (by omega)
      have m1 : IntKind.i64.wrap (hi + 1) = hi + 1 := IntWalk.i64_in _ (by omega)
      go_upto_region 9 with fail
      have hX : XR9 r (P + 30) 0 _ := hO.base.2
      replace hO := hO.mono (Q := P + 31) hr0 (by omega)
      apply own_code hO
      (repeat (first | (with_reducible exact hO) | (with_reducible apply Own.alloc) | (with_reducible apply Own.drew) | ((with_reducible apply Own.set_at); (focus (show _ ≤ _; omega)))))
      have hG := hF; clear hF; clear hO; intro hO
      (try simp only [World.size_alloc1, World.size_drew, Nat.reduceAdd] at hO); (try simp only [upd, updI, List.map_cons, List.map_nil, eq_self, if_true, if_false, reduceIte, Nat.add_eq_left, Nat.left_eq_add, Nat.reduceEqDiff, List.set_cons_zero, List.set_cons_succ, hG] at hO); clear hG
      refine region_own (X := XR9 r (P + 30) 0) [9] (by kernel_rfl) (hO) (hX) (by first | exact XStab.true | exact XStab.rd | exact XStab.rdIf) ?_
      clear hO
      refine Sim.sP (i := 0) (d := some 31) (h := ?_)
      refine Sim.sO (i := 1) (d := some 32) (v := ?_) (hy := ?_) (h := ?_)
      rotate_left
      · first | refine Or.inl ⟨by rfl, fun w hO => ?_⟩ | (refine Or.inr ⟨by rfl, ?_⟩; with_reducible rfl)
        first | done | (have hF := hO; (try simp only [Own, Item.Holds, apartI, CellsAt, Nat.reduceAdd, Nat.zero_add, List.mem_cons, List.not_mem_nil, or_false, forall_eq_or_imp, forall_eq, ne_eq, false_imp_iff, implies_true, and_true] at hF); ((try (have hc1 := hO.sel_at (x := pk0) (by first | exact List.mem_cons_self | exact List.mem_cons_of_mem _ List.mem_cons_self) lo0 hi0; rw [hy0] at hc1))); refine Out.same ?_; go_simp; all_goals with_reducible rfl)
      refine Sim.sP (i := 2) (d := some 33) (h := ?_)
      refine Sim.sP (i := 4) (d := some 35) (h := ?_)
      refine Sim.many (rs := [3, 5]) (by kernel_rfl) (by decide) ?_
      refine AllS.cons (oi := { dst := some 34, op := Op.buildSlice 99 2 #[(0, Operand.const (Value.int IntKind.i64 (-1))), (1, Operand.tmp 33)], type := 99, pos := "l20_draw.go:493", after := #[{ on := 2, ground := Ground.data }], guard := none }) rfl (by rfl) (fun w0 hO hX K hK => ?_) ?_
      rotate_left
      refine AllS.cons (oi := { dst := some 36, op := Op.call { callee := Callee.value (Operand.func 51), args := #[Operand.tmp 35, Operand.const (Value.int IntKind.i64 2)], argTypes := #[66, 3] }, type := 3, pos := "l20_draw.go:493", after := #[{ on := 4, ground := Ground.data }], guard := none }) rfl (by rfl) (fun w0 hO hX K hK => ?_) ?_
      rotate_left
      exact AllS.nil
      rotate_right 2
      have hF := hO; (try simp only [Own, Item.Holds, apartI, CellsAt, Nat.reduceAdd, Nat.zero_add, List.mem_cons, List.not_mem_nil, or_false, forall_eq_or_imp, forall_eq, ne_eq, false_imp_iff, implies_true, and_true] at hF)
      go_simp
      apply hK _ _ _ (XR9 r (P + 30) 0)
      (repeat (first | (with_reducible exact hO) | (with_reducible apply Own.alloc) | (with_reducible apply Own.drew) | ((with_reducible apply Own.set_at); (focus (show _ ≤ _; omega)))))
      · first | exact trivial | exact hX | exact hX.below (below1 _) | exact RdIf.gone | exact hX.keep ((Below.refl _ _).setCell (by first | omega | (dsimp only; omega)) _)
      · exact (by first | exact XStab.true | exact XStab.rd | exact XStab.rdIf)
      · first | exact fun _ _ h => h.2 | exact fun _ _ h => h | exact fun h => absurd h (by decide)
      try simp only [upd, updI, List.map_cons, List.map_nil, eq_self, if_true, if_false, reduceIte, Nat.add_eq_left, Nat.left_eq_add, Nat.reduceEqDiff, List.set_cons_zero, List.set_cons_succ, hF]
      clear hK K hF hO
      try simp only [Act.put, List.setIfInBounds_toArray, List.set_cons_zero, List.set_cons_succ]
      refine Sim.one' (i := 5) (oi := { dst := some 36, op := Op.call { callee := Callee.value (Operand.func 51), args := #[Operand.tmp 35, Operand.const (Value.int IntKind.i64 2)], argTypes := #[66, 3] }, type := 3, pos := "l20_draw.go:493", after := #[{ on := 4, ground := Ground.data }], guard := none }) (by kernel_rfl) rfl (by rfl) (fun w0 hO hX K hK => ?_)
      have hF := hO; (try simp only [Own, Item.Holds, apartI, CellsAt, Nat.reduceAdd, Nat.zero_add, List.mem_cons, List.not_mem_nil, or_false, forall_eq_or_imp, forall_eq, ne_eq, false_imp_iff, implies_true, and_true] at hF)
      go_simp
      refine (pick_any r (P + 30) _ _ hX (by omega) (by decide) (by decide)).mono ?_
      rintro e wa ⟨pk0, lo0, hi0, rfl, hR4, hB4⟩
      obtain ⟨y0, hy0⟩ : ∃ y, sel pk0 (-1) (hi + 1) = y := ⟨_, rfl⟩
      have ys0 := sel_two hy0
      apply hK _ _ _ (XR9 r (P + 30) 1)
      · exact Own.but hr0 (Stab.bd hr0) ⟨hO.base.1.trans hB4, hR4.mono (by omega)⟩ hB4 hO
      · exact trivial
      · exact XStab.true
      · exact fun _ _ h => h
      clear hR4 hB4
      clear hK K hF hO
      try simp only [Act.put, List.setIfInBounds_toArray, List.set_cons_zero, List.set_cons_succ]
      refine Sim.sP (i := 6) (d := some 37) (h := ?_)
      refine Sim.sO (i := 7) (d := some 38) (v := ?_) (hy := ?_) (h := ?_)
      rotate_left
      · first | refine Or.inl ⟨by rfl, fun w hO => ?_⟩ | (refine Or.inr ⟨by rfl, ?_⟩; with_reducible rfl)
        first | done | (have hF := hO; (try simp only [Own, Item.Holds, apartI, CellsAt, Nat.reduceAdd, Nat.zero_add, List.mem_cons, List.not_mem_nil, or_false, forall_eq_or_imp, forall_eq, ne_eq, false_imp_iff, implies_true, and_true] at hF); ((try (have hc1 := hO.sel_at (x := pk0) (by first | exact List.mem_cons_self | exact List.mem_cons_of_mem _ List.mem_cons_self) lo0 hi0; rw [hy0] at hc1))); refine Out.same ?_; go_simp; all_goals with_reducible rfl)
      refine Sim.sP (i := 8) (d := some 39) (h := ?_)
      refine Sim.one' (i := 9) (oi := { dst := none, op := Op.store 3 (Operand.tmp 39) (Operand.tmp 38), type := 0, pos := "l20_draw.go:493", after := #[{ on := 8, ground := Ground.data }, { on := 7, ground := Ground.data }, { on := 5, ground := Ground.chain }, { on := 0, ground := Ground.phase }, { on := 1, ground := Ground.phase }, { on := 2, ground := Ground.phase }, { on := 3, ground := Ground.phase }, { on := 4, ground := Ground.phase }, { on := 5, ground := Ground.phase }, { on := 6, ground := Ground.phase }, { on := 7, ground := Ground.phase }], guard := none }) (by kernel_rfl) rfl (by rfl) (fun w0 hO hX K hK => ?_)
      have hF := hO; (try simp only [Own, Item.Holds, apartI, CellsAt, Nat.reduceAdd, Nat.zero_add, List.mem_cons, List.not_mem_nil, or_false, forall_eq_or_imp, forall_eq, ne_eq, false_imp_iff, implies_true, and_true] at hF); ((try (have hc1 := hO.sel_at (x := pk0) (by first | exact List.mem_cons_self | exact List.mem_cons_of_mem _ List.mem_cons_self) lo0 hi0; rw [hy0] at hc1)))
      go_simp
      apply hK _ _ _ (XR9 r (P + 30) 1)
      (repeat (first | (with_reducible exact hO) | (with_reducible apply Own.alloc) | (with_reducible apply Own.drew) | ((with_reducible apply Own.set_at); (focus (show _ ≤ _; omega)))))
      · first | exact trivial | exact hX | exact hX.below (below1 _) | exact RdIf.gone | exact hX.keep ((Below.refl _ _).setCell (by first | omega | (dsimp only; omega)) _)
      · exact (by first | exact XStab.true | exact XStab.rd | exact XStab.rdIf)
      · first | exact fun _ _ h => h.2 | exact fun _ _ h => h | exact fun h => absurd h (by decide)
      try simp only [upd, updI, List.map_cons, List.map_nil, eq_self, if_true, if_false, reduceIte, Nat.add_eq_left, Nat.left_eq_add, Nat.reduceEqDiff, List.set_cons_zero, List.set_cons_succ, hF]
      clear hK K hF hO
      try simp only [Act.put, List.setIfInBounds_toArray, List.set_cons_zero, List.set_cons_succ]
      refine Sim.done (by kernel_rfl) (fun w1 hO hX => ?_) _
      (try simp only [World.size_alloc1, World.size_drew, Nat.reduceAdd] at hO); (try simp only [upd, updI, List.map_cons, List.map_nil, eq_self, if_true, if_false, reduceIte, Nat.add_eq_left, Nat.left_eq_add, Nat.reduceEqDiff, List.set_cons_zero, List.set_cons_succ] at hO)
      have hF := hO; (try simp only [Own, Item.Holds, apartI, CellsAt, Nat.reduceAdd, Nat.zero_add, List.mem_cons, List.not_mem_nil, or_false, forall_eq_or_imp, forall_eq, ne_eq, false_imp_iff, implies_true, and_true] at hF)
      rotate_left 1
      have hF := hO; (try simp only [Own, Item.Holds, apartI, CellsAt, Nat.reduceAdd, Nat.zero_add, List.mem_cons, List.not_mem_nil, or_false, forall_eq_or_imp, forall_eq, ne_eq, false_imp_iff, implies_true, and_true] at hF)
      go_simp
      refine (pick_any r (P + 30) _ _ hX (by omega) (by decide) (by decide)).mono ?_
      rintro e wa ⟨pk0, lo0, hi0, rfl, hR4, hB4⟩
      obtain ⟨y0, hy0⟩ : ∃ y, sel pk0 (-1) (hi + 1) = y := ⟨_, rfl⟩
      have ys0 := sel_two hy0
      apply hK _ _ _ (XR9 r (P + 30) 1)
      · exact Own.but hr0 (Stab.bd hr0) ⟨hO.base.1.trans hB4, hR4.mono (by omega)⟩ hB4 hO
      · exact trivial
      · exact XStab.true
      · exact fun _ _ h => h
      clear hR4 hB4
      clear hK K hF hO
      try simp only [Act.put, List.setIfInBounds_toArray, List.set_cons_zero, List.set_cons_succ]
      refine Sim.one' (i := 3) (oi := { dst := some 34, op := Op.buildSlice 99 2 #[(0, Operand.const (Value.int IntKind.i64 (-1))), (1, Operand.tmp 33)], type := 99, pos := "l20_draw.go:493", after := #[{ on := 2, ground := Ground.data }], guard := none }) (by kernel_rfl) rfl (by rfl) (fun w0 hO hX K hK => ?_)
      have hF := hO; (try simp only [Own, Item.Holds, apartI, CellsAt, Nat.reduceAdd, Nat.zero_add, List.mem_cons, List.not_mem_nil, or_false, forall_eq_or_imp, forall_eq, ne_eq, false_imp_iff, implies_true, and_true] at hF)
      go_simp
      apply hK _ _ _ (XR9 r (P + 30) 1)
      (repeat (first | (with_reducible exact hO) | (with_reducible apply Own.alloc) | (with_reducible apply Own.drew) | ((with_reducible apply Own.set_at); (focus (show _ ≤ _; omega)))))
      · first | exact trivial | exact hX | exact hX.below (below1 _) | exact RdIf.gone | exact hX.keep ((Below.refl _ _).setCell (by first | omega | (dsimp only; omega)) _)
      · exact (by first | exact XStab.true | exact XStab.rd | exact XStab.rdIf)
      · first | exact fun _ _ h => h.2 | exact fun _ _ h => h | exact fun h => absurd h (by decide)
      try simp only [upd, updI, List.map_cons, List.map_nil, eq_self, if_true, if_false, reduceIte, Nat.add_eq_left, Nat.left_eq_add, Nat.reduceEqDiff, List.set_cons_zero, List.set_cons_succ, hF]
      clear hK K hF hO
      try simp only [Act.put, List.setIfInBounds_toArray, List.set_cons_zero, List.set_cons_succ]
      refine Sim.sP (i := 6) (d := some 37) (h := ?_)
      refine Sim.sO (i := 7) (d := some 38) (v := ?_) (hy := ?_) (h := ?_)
      rotate_left
      · first | refine Or.inl ⟨by rfl, fun w hO => ?_⟩ | (refine Or.inr ⟨by rfl, ?_⟩; with_reducible rfl)
        first | done | (have hF := hO; (try simp only [Own, Item.Holds, apartI, CellsAt, Nat.reduceAdd, Nat.zero_add, List.mem_cons, List.not_mem_nil, or_false, forall_eq_or_imp, forall_eq, ne_eq, false_imp_iff, implies_true, and_true] at hF); ((try (have hc1 := hO.sel_at (x := pk0) (by first | exact List.mem_cons_self | exact List.mem_cons_of_mem _ List.mem_cons_self) lo0 hi0; rw [hy0] at hc1))); refine Out.same ?_; go_simp; all_goals with_reducible rfl)
      refine Sim.sP (i := 8) (d := some 39) (h := ?_)
      refine Sim.one' (i := 9) (oi := { dst := none, op := Op.store 3 (Operand.tmp 39) (Operand.tmp 38), type := 0, pos := "l20_draw.go:493", after := #[{ on := 8, ground := Ground.data }, { on := 7, ground := Ground.data }, { on := 5, ground := Ground.chain }, { on := 0, ground := Ground.phase }, { on := 1, ground := Ground.phase }, { on := 2, ground := Ground.phase }, { on := 3, ground := Ground.phase }, { on := 4, ground := Ground.phase }, { on := 5, ground := Ground.phase }, { on := 6, ground := Ground.phase }, { on := 7, ground := Ground.phase }], guard := none }) (by kernel_rfl) rfl (by rfl) (fun w0 hO hX K hK => ?_)
      have hF := hO; (try simp only [Own, Item.Holds, apartI, CellsAt, Nat.reduceAdd, Nat.zero_add, List.mem_cons, List.not_mem_nil, or_false, forall_eq_or_imp, forall_eq, ne_eq, false_imp_iff, implies_true, and_true] at hF); ((try (have hc1 := hO.sel_at (x := pk0) (by first | exact List.mem_cons_self | exact List.mem_cons_of_mem _ List.mem_cons_self) lo0 hi0; rw [hy0] at hc1)))
      go_simp
      apply hK _ _ _ (XR9 r (P + 30) 1)
      (repeat (first | (with_reducible exact hO) | (with_reducible apply Own.alloc) | (with_reducible apply Own.drew) | ((with_reducible apply Own.set_at); (focus (show _ ≤ _; omega)))))
      · first | exact trivial | exact hX | exact hX.below (below1 _) | exact RdIf.gone | exact hX.keep ((Below.refl _ _).setCell (by first | omega | (dsimp only; omega)) _)
      · exact (by first | exact XStab.true | exact XStab.rd | exact XStab.rdIf)
      · first | exact fun _ _ h => h.2 | exact fun _ _ h => h | exact fun h => absurd h (by decide)
      try simp only [upd, updI, List.map_cons, List.map_nil, eq_self, if_true, if_false, reduceIte, Nat.add_eq_left, Nat.left_eq_add, Nat.reduceEqDiff, List.set_cons_zero, List.set_cons_succ, hF]
      clear hK K hF hO
      try simp only [Act.put, List.setIfInBounds_toArray, List.set_cons_zero, List.set_cons_succ]
      refine Sim.done (by kernel_rfl) (fun w1 hO hX => ?_) _
      (try simp only [World.size_alloc1, World.size_drew, Nat.reduceAdd] at hO); (try simp only [upd, updI, List.map_cons, List.map_nil, eq_self, if_true, if_false, reduceIte, Nat.add_eq_left, Nat.left_eq_add, Nat.reduceEqDiff, List.set_cons_zero, List.set_cons_succ] at hO)
      have hF := hO; (try simp only [Own, Item.Holds, apartI, CellsAt, Nat.reduceAdd, Nat.zero_add, List.mem_cons, List.not_mem_nil, or_false, forall_eq_or_imp, forall_eq, ne_eq, false_imp_iff, implies_true, and_true] at hF)
      rotate_left 1
      all_goals
        go_wp2_with fail
        apply own_end hO
        (repeat (first | (with_reducible exact hO) | (with_reducible apply Own.alloc) | (with_reducible apply Own.drew) | ((with_reducible apply Own.set_at); (focus (show _ ≤ _; omega)))))
        have hG := hF; clear hF; clear hO; intro hO
        refine own_ret (v := .agg #[.int .i64 st, .int .i64 ha, .int .i64 y0, .int .i64 hi]) hO ?_ rfl (fun hO => ⟨st, ha, y0, hi, ⟨h1, h2, by omega, by omega⟩, rfl, hO.base.2.mono (by omega), hO.base.1⟩)
        clear hO; intro w1 hO
        (try simp only [World.size_alloc1, World.size_drew, Nat.reduceAdd] at hO); (try simp only [upd, updI, List.map_cons, List.map_nil, eq_self, if_true, if_false, reduceIte, Nat.add_eq_left, Nat.left_eq_add, Nat.reduceEqDiff, List.set_cons_zero, List.set_cons_succ, hG] at hO); clear hG
        have hF := hO; (try simp only [Own, Item.Holds, apartI, CellsAt, Nat.reduceAdd, Nat.zero_add, List.mem_cons, List.not_mem_nil, or_false, forall_eq_or_imp, forall_eq, ne_eq, false_imp_iff, implies_true, and_true] at hF)
        simp [results, Tryd.results72, go_sem, hF]
    · clear x0 x1
      go_wp2_with fail
      apply own_end hO
      (repeat (first | (with_reducible exact hO) | (with_reducible apply Own.alloc) | (with_reducible apply Own.drew) | ((with_reducible apply Own.set_at); (focus (show _ ≤ _; omega)))))
      have hG := hF; clear hF; clear hO; intro hO
      refine own_ret (v := .agg #[.int .i64 st, .int .i64 ha, .int .i64 lo, .int .i64 108]) hO ?_ rfl (fun hO => ⟨st, ha, lo, 108, ⟨h1, h2, by omega, by omega⟩, rfl, hO.base.2.mono (by omega), hO.base.1⟩)
      clear hO; intro w1 hO
      (try simp only [World.size_alloc1, World.size_drew, Nat.reduceAdd] at hO); (try simp only [upd, updI, List.map_cons, List.map_nil, eq_self, if_true, if_false, reduceIte, Nat.add_eq_left, Nat.left_eq_add, Nat.reduceEqDiff, List.set_cons_zero, List.set_cons_succ, hG] at hO); clear hG
      have hF := hO; (try simp only [Own, Item.Holds, apartI, CellsAt, Nat.reduceAdd, Nat.zero_add, List.mem_cons, List.not_mem_nil, or_false, forall_eq_or_imp, forall_eq, ne_eq, false_imp_iff, implies_true, and_true] at hF)
      simp [results, Tryd.results72, go_sem, hF]

/-- What drawing for a law leaves: an instrument; an instrument and a voice. -/
def DrewI9 (w : World) (e : Ending) (w' : World) : Prop :=
  ∃ st ha lo hi : Int, insOk st ha lo hi ∧ e = .returned (.agg #[.int .i64 st, .int .i64 ha, .int .i64 lo, .int .i64 hi]) ∧ Below w.heap.size w w'
def DrewIv (w : World) (e : Ending) (w' : World) : Prop :=
  ∃ (u : Value) (v : List Nt) (st ha lo hi : Int), (∀ x ∈ v, ntOk x) ∧ v.length ≤ 61 ∧ insOk st ha lo hi ∧ e = .returned (.tuple #[.agg #[.int .i64 st, .int .i64 ha, .int .i64 lo, .int .i64 hi], u]) ∧ Own w.heap.size (Below w.heap.size w) w' [.row 39 6 u v.length (vcC v)]
theorem ne_two9 {a b r : Nat} {xs ys : List Value} (h1 : a ≠ r) (h2 : b ≠ r) : ∀ x ∈ [Item.blk a xs, Item.blk b ys], x.at? ≠ some r := by
  intro x hx e
  simp at hx
  rcases hx with rfl | rfl
  · exact h1 (by simpa [Item.at?] using e)
  · exact h2 (by simpa [Item.at?] using e)

set_option maxHeartbeats 4000000 in
theorem DrawWriteFor_any (v : Value) (n : Nat) (w : World) (hn : n ≤ maxLen) (h : BytesB w w.heap.size v n) :
    Calls Tryd.prog 39 #[v] w (DrewIv w) := by
  have hO := Own.start w
  have hF := True.intro
  go_enter Tryd.func39, Tryd.ntmps39
  go_wp2_with fail
  apply own_at hO
  (repeat (first | (with_reducible exact hO) | (with_reducible apply Own.alloc) | (with_reducible apply Own.drew) | ((with_reducible apply Own.set_at); (focus (show _ ≤ _; omega)))))
  intro hO1
  refine (open_any v n _ hn (h.alloc _)).mono ?_
  rintro e w1 ⟨r, hr, rfl, hR, hb⟩
  have hne := hO1.ne_of hr
  have hr0 := Nat.le_trans hO1.low hr
  replace hO := hO1.below hb
  clear hO1 hb h hn
  go_wp2_with fail
  refine (l20Instrument_any r 0 _ _ hR (by omega) (by omega) (by omega)).mono ?_
  rintro e w2 ⟨st, ha, lo, hi, hx, rfl, hR2, hB2⟩
  replace hO := hO.drawn hB2 hr0 hne
  have HX := hid hx
  have hrl := hR2.lt
  have hwr : w.heap.size ≠ r := fun e => hne _ List.mem_cons_self (by rw [e]; rfl)
  have hX : XR9 r (0 + 60) 0 (w2.alloc (.cells #[.int .i64 st, .int .i64 ha, .int .i64 lo, .int .i64 hi] 61)) := hR2.below (below1 _)
  have hlo := hO.low
  clear hR hR2 hB2 hne hx
  have hG := hF
  (try simp only [World.size_alloc1, World.size_drew, Nat.reduceAdd] at hO); (try simp only [upd, updI, List.map_cons, List.map_nil, eq_self, if_true, if_false, reduceIte, Nat.add_eq_left, Nat.left_eq_add, Nat.reduceEqDiff, List.set_cons_zero, List.set_cons_succ, hG] at hO); clear hG
  clear hF
  have hF := hO; (try simp only [Own, Item.Holds, apartI, CellsAt, Nat.reduceAdd, Nat.zero_add, List.mem_cons, List.not_mem_nil, or_false, forall_eq_or_imp, forall_eq, ne_eq, false_imp_iff, implies_true, and_true] at hF)
  go_wp2_with fail
  apply own_code hO
  (repeat (first | (with_reducible exact hO) | (with_reducible apply Own.alloc) | (with_reducible apply Own.drew) | ((with_reducible apply Own.set_at); (focus (show _ ≤ _; omega)))))
  have hG := hF; clear hF; clear hO; intro hO
  (try simp only [World.size_alloc1, World.size_drew, Nat.reduceAdd] at hO); (try simp only [upd, updI, List.map_cons, List.map_nil, eq_self, if_true, if_false, reduceIte, Nat.add_eq_left, Nat.left_eq_add, Nat.reduceEqDiff, List.set_cons_zero, List.set_cons_succ, hG] at hO); clear hG
  refine region_own (X := XR9 r (0 + 60) 0) [3] (by kernel_rfl) (hO) (hX) (by first | exact XStab.true | exact XStab.rd | exact XStab.rdIf) ?_
  clear hO
  refine Sim.sO (i := 0) (d := some 10) (v := ?_) (hy := ?_) (h := ?_)
  rotate_left
  · first | refine Or.inl ⟨by rfl, fun w hO => ?_⟩ | (refine Or.inr ⟨by rfl, ?_⟩; with_reducible rfl)
    first | done | (have hF := hO; (try simp only [Own, Item.Holds, apartI, CellsAt, Nat.reduceAdd, Nat.zero_add, List.mem_cons, List.not_mem_nil, or_false, forall_eq_or_imp, forall_eq, ne_eq, false_imp_iff, implies_true, and_true] at hF); refine Out.same ?_; go_simp; all_goals with_reducible rfl)
  refine Sim.sP (i := 1) (d := some 11) (h := ?_)
  refine Sim.one' (i := 2) (oi := { dst := some 12, op := Op.call { callee := Callee.value (Operand.func 45), args := #[Operand.tmp 11, Operand.const (Value.int IntKind.i64 14)], argTypes := #[66, 3] }, type := 23, pos := "l20_draw.go:510", after := #[{ on := 1, ground := Ground.data }], guard := none }) (by kernel_rfl) rfl (by rfl) (fun w0 hO hX K hK => ?_)
  have hF := hO; (try simp only [Own, Item.Holds, apartI, CellsAt, Nat.reduceAdd, Nat.zero_add, List.mem_cons, List.not_mem_nil, or_false, forall_eq_or_imp, forall_eq, ne_eq, false_imp_iff, implies_true, and_true] at hF)
  go_simp
  refine (l20Voice_any r (0 + 60) _ _ hX (by omega) (by omega) (by omega)).mono ?_
  rintro e wa ⟨u, vs, hv, hl, rfl, ho, hR4, hB4⟩
  have HV := hid (And.intro hv hl)
  apply hK _ _ _ (XR9 r (0 + 60) 1)
  · exact ((Own.drawn hB4 hr0 (ne_two9 (by omega) hwr) hO).joinRow ho hO.low (fun x hx g hg => (hO.lt x hx g hg).2))
  · exact trivial
  · exact XStab.true
  · first | exact fun _ _ h => h.2 | exact fun h => absurd h (by decide)
  clear hR4 hB4 hv hl ho
  clear hK K hF hO
  try simp only [Act.put, List.setIfInBounds_toArray, List.set_cons_zero, List.set_cons_succ]
  refine Sim.one' (i := 3) (oi := { dst := none, op := Op.store 61 (Operand.tmp 2) (Operand.tmp 10), type := 0, pos := "l20_draw.go:510", after := #[{ on := 0, ground := Ground.data }, { on := 2, ground := Ground.chain }, { on := 0, ground := Ground.phase }, { on := 1, ground := Ground.textOnly Departure.lateStores }, { on := 2, ground := Ground.textOnly Departure.lateStoresUnsure }], guard := none }) (by kernel_rfl) rfl (by rfl) (fun w0 hO hX K hK => ?_)
  have hF := hO; (try simp only [Own, Item.Holds, apartI, CellsAt, Nat.reduceAdd, Nat.zero_add, List.mem_cons, List.not_mem_nil, or_false, forall_eq_or_imp, forall_eq, ne_eq, false_imp_iff, implies_true, and_true] at hF)
  go_simp
  apply hK _ _ _ (XR9 r (0 + 60) 1)
  (repeat (first | (with_reducible exact hO) | (with_reducible apply Own.alloc) | (with_reducible apply Own.drew) | ((with_reducible apply Own.set_at); (focus (show _ ≤ _; omega)))))
  · first | exact trivial | exact hX | exact hX.below (below1 _) | exact RdIf.gone | exact hX.keep ((Below.refl _ _).setCell (by first | omega | (dsimp only; omega)) _)
  · exact (by first | exact XStab.true | exact XStab.rd | exact XStab.rdIf)
  · first | exact fun _ _ h => h.2 | exact fun _ _ h => h | exact fun h => absurd h (by decide)
  try simp only [upd, updI, List.map_cons, List.map_nil, eq_self, if_true, if_false, reduceIte, Nat.add_eq_left, Nat.left_eq_add, Nat.reduceEqDiff, List.set_cons_zero, List.set_cons_succ, hF]
  clear hK K hF hO
  try simp only [Act.put, List.setIfInBounds_toArray, List.set_cons_zero, List.set_cons_succ]
  refine Sim.sP (i := 4) (d := some 3) (h := ?_)
  refine Sim.done (by kernel_rfl) (fun w1 hO hX => ?_) _
  (try simp only [World.size_alloc1, World.size_drew, Nat.reduceAdd] at hO); (try simp only [upd, updI, List.map_cons, List.map_nil, eq_self, if_true, if_false, reduceIte, Nat.add_eq_left, Nat.left_eq_add, Nat.reduceEqDiff, List.set_cons_zero, List.set_cons_succ] at hO)
  have hF := hO; (try simp only [Own, Item.Holds, apartI, CellsAt, Nat.reduceAdd, Nat.zero_add, List.mem_cons, List.not_mem_nil, or_false, forall_eq_or_imp, forall_eq, ne_eq, false_imp_iff, implies_true, and_true] at hF)
  all_goals
    go_wp2
    apply own_end hO
    (repeat (first | (with_reducible exact hO) | (with_reducible apply Own.alloc) | (with_reducible apply Own.drew) | ((with_reducible apply Own.set_at); (focus (show _ ≤ _; omega)))))
    have hG := hF; clear hF; clear hO; intro hO
    refine own_ret (v := .tuple #[.agg #[.int .i64 st, .int .i64 ha, .int .i64 lo, .int .i64 hi], u]) hO ?_ rfl (fun hO => ⟨u, vs, st, ha, lo, hi, HV.out.1, HV.out.2, HX.out, rfl, Own.sub (.cons_cons _ (.cons _ (.cons _ .slnil))) hO⟩)
    clear hO; intro w1 hO
    (try simp only [World.size_alloc1, World.size_drew, Nat.reduceAdd] at hO); (try simp only [upd, updI, List.map_cons, List.map_nil, eq_self, if_true, if_false, reduceIte, Nat.add_eq_left, Nat.left_eq_add, Nat.reduceEqDiff, List.set_cons_zero, List.set_cons_succ, hG] at hO); clear hG
    have hF := hO; (try simp only [Own, Item.Holds, apartI, CellsAt, Nat.reduceAdd, Nat.zero_add, List.mem_cons, List.not_mem_nil, or_false, forall_eq_or_imp, forall_eq, ne_eq, false_imp_iff, implies_true, and_true] at hF)
    simp [results, Tryd.results39, go_sem, hF]

set_option maxHeartbeats 1000000 in
theorem DrawSoundOf_any (v : Value) (n : Nat) (w : World) (hn : n ≤ maxLen) (h : BytesB w w.heap.size v n) :
    Calls Tryd.prog 43 #[v] w (DrewIv w) := by
  have hO := Own.start w
  have hF := True.intro
  go_enter Tryd.func43, Tryd.ntmps43
  go_wp2_with fail
  apply own_at hO
  (repeat (first | (with_reducible exact hO) | (with_reducible apply Own.alloc) | (with_reducible apply Own.drew) | ((with_reducible apply Own.set_at); (focus (show _ ≤ _; omega)))))
  intro hO1
  refine (DrawWriteFor_any v n _ hn (h.alloc _)).mono ?_
  rintro e w1 ⟨u, vs, st, ha, lo, hi, hv, hl, hx, rfl, hO2⟩
  have HV := hid (And.intro hv (And.intro hl hx))
  have HB := hid (hO1.below hO2.base)
  have hO := (hO1.below hO2.base).joinRow hO2.1.1 hO1.low (fun x hx g hg => (hO1.lt x hx g hg).2)
  clear hv hl hx h hn hO1 hO2 HB hF
  have hF := hO; (try simp only [Own, Item.Holds, apartI, CellsAt, Nat.reduceAdd, Nat.zero_add, List.mem_cons, List.not_mem_nil, or_false, forall_eq_or_imp, forall_eq, ne_eq, false_imp_iff, implies_true, and_true] at hF)
  go_wp2
  apply own_end hO
  (repeat (first | (with_reducible exact hO) | (with_reducible apply Own.alloc) | (with_reducible apply Own.drew) | ((with_reducible apply Own.set_at); (focus (show _ ≤ _; omega)))))
  have hG := hF; clear hF; clear hO; intro hO
  refine own_ret (v := .tuple #[.agg #[.int .i64 st, .int .i64 ha, .int .i64 lo, .int .i64 hi], u]) hO ?_ rfl (fun hO => by (try simp only [World.size_alloc1, World.size_drew, Nat.reduceAdd] at hO); (try simp only [upd, updI, List.map_cons, List.map_nil, eq_self, if_true, if_false, reduceIte, Nat.add_eq_left, Nat.left_eq_add, Nat.reduceEqDiff, List.set_cons_zero, List.set_cons_succ, hG] at hO); clear hG; exact ⟨u, vs, st, ha, lo, hi, HV.out.1, HV.out.2.1, HV.out.2.2, rfl, Own.sub (.cons_cons _ (.cons _ .slnil)) hO⟩)
  clear hO; intro w1 hO
  (try simp only [World.size_alloc1, World.size_drew, Nat.reduceAdd] at hO); (try simp only [upd, updI, List.map_cons, List.map_nil, eq_self, if_true, if_false, reduceIte, Nat.add_eq_left, Nat.left_eq_add, Nat.reduceEqDiff, List.set_cons_zero, List.set_cons_succ, hG] at hO); clear hG
  have hF := hO; (try simp only [Own, Item.Holds, apartI, CellsAt, Nat.reduceAdd, Nat.zero_add, List.mem_cons, List.not_mem_nil, or_false, forall_eq_or_imp, forall_eq, ne_eq, false_imp_iff, implies_true, and_true] at hF)
  simp [results, Tryd.results43, go_sem, hF]

end Go.Proofs.YtcgcnkddgihkpaaDoor
