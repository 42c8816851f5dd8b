/- DrawNoteAt: a voice and a tick are drawn. -/
import Derived.Test.YtepelgaekgllcaaDoorDrawsVs
namespace Go.Proofs.YtepelgaekgllcaaDoor
set_option linter.unusedSimpArgs false
set_option linter.unusedVariables false
open Go.RowKit

theorem seven_bd (x : Int) : 0 ≤ ([0, 0, 1, 1, 1, 2, 3] : List Int).getD x.toNat 0 ∧ ([0, 0, 1, 1, 1, 2, 3] : List Int).getD x.toNat 0 < 4 := by
  obtain h | h | h | h | h | h | h | h : x.toNat = 0 ∨ x.toNat = 1 ∨ x.toNat = 2 ∨ x.toNat = 3 ∨ x.toNat = 4 ∨ x.toNat = 5 ∨ x.toNat = 6 ∨ 7 ≤ x.toNat := by omega
  all_goals first | (rw [h]; decide) | (rw [List.getD_eq_getElem?_getD, List.getElem?_eq_none (by simpa using h)]; decide)
def four (a b y : Int) : Int := ([a, b * 12, -1, 9223372036854775807] : List Int).getD y.toNat 0
theorem four_bd {a b y : Int} (a0 : 0 ≤ a) (a1 : a < 256) (b0 : 0 ≤ b) (b1 : b < 40) : -1 ≤ four a b y ∧ four a b y ≤ 9223372036854775807 := by
  unfold four
  obtain h | h | h | h | h : y.toNat = 0 ∨ y.toNat = 1 ∨ y.toNat = 2 ∨ y.toNat = 3 ∨ 4 ≤ y.toNat := by omega
  · rw [h]; simp; omega
  · rw [h]; simp; omega
  · rw [h]; simp
  · rw [h]; simp
  · rw [List.getD_eq_getElem?_getD, List.getElem?_eq_none (by simpa using h)]; simp

set_option maxHeartbeats 8000000 in
theorem DrawNoteAt_any (v : Value) (n : Nat) (w : World) (hn : n ≤ maxLen) (h : BytesB w w.heap.size v n) :
    Calls Tryd.prog 22 #[v] w (DrewVt w) := by
  go_enter Tryd.func22, Tryd.ntmps22
  go_wp2_with fail
  refine (open_any v n _ hn h).mono ?_
  rintro e w1 ⟨r, hr, rfl, hR, hb⟩
  have hrl := hR.lt
  go_wp2_with fail
  refine (l20Voice_any r 0 _ _ hR (by omega) (by omega) (by omega)).mono ?_
  rintro e w2 ⟨u, vs, hv, hl, rfl, ho, hR2, hB2⟩
  have hr2 := hR2.lt
  have HW := hid (vs_own hb hr hB2 ho)
  have HNE := hid (show ∀ x ∈ [Item.row 26 6 u vs.length (vcC vs)], x.at? ≠ some r from fun x hx e => by
    simp at hx; subst hx
    have := (World.ownsRow.lt ho r e).1; omega)
  have HV := hid hv
  clear hR hb h hn hB2 ho hv
  -- what follows draws on: the reader stands below w2
  have hO : Own w2.heap.size (ButR r w2) w2 [] := ⟨Stab.but hr2, ButR.refl _ _⟩
  have hF := True.intro
  have hX : Rd w2 r (0 + 500 + 0) := hR2.mono (by omega)
  clear hR2
  go_wp2_with fail
  apply own_code hO
  (repeat (first | (with_reducible exact hO) | (with_reducible apply Own.alloc) | (with_reducible apply Own.drew) | ((with_reducible apply Own.set_at); (focus (show _ ≤ _; omega)))))
  have hG := hF; clear hF; clear hO; intro hO
  (try simp only [World.size_alloc1, World.size_drew, Nat.reduceAdd] at hO); (try simp only [upd, updI, List.map_cons, List.map_nil, eq_self, if_true, if_false, reduceIte, Nat.add_eq_left, Nat.left_eq_add, Nat.reduceEqDiff, List.set_cons_zero, List.set_cons_succ, hG] at hO); clear hG
  refine region_own (X := fun W => Rd W r (0 + 500 + 0)) [] (by kernel_rfl) (hO) (hX) (by first | exact XStab.true | exact XStab.rd) ?_
  clear hO
  refine Sim.takeP (i := 0) (d := some 10) (v := ?_) rfl rfl (by kernel_rfl) (by kernel_rfl) (by kernel_rfl) (fun _ _ _ h => h) (by first | exact XStab.true | exact XStab.rd) ?_ ?_
  rotate_left
  · first | refine Or.inl ⟨by rfl, fun w => ?_⟩ | (refine Or.inr ⟨by rfl, ?_⟩; with_reducible rfl)
    first | done | (go_simp; all_goals with_reducible rfl)
  try simp only [Act.put, List.setIfInBounds_toArray, List.set_cons_zero, List.set_cons_succ]
  refine Sim.takeP (i := 1) (d := some 11) (v := ?_) rfl rfl (by kernel_rfl) (by kernel_rfl) (by kernel_rfl) (fun _ _ _ h => h) (by first | exact XStab.true | exact XStab.rd) ?_ ?_
  rotate_left
  · first | refine Or.inl ⟨by rfl, fun w => ?_⟩ | (refine Or.inr ⟨by rfl, ?_⟩; with_reducible rfl)
    first | done | (go_simp; all_goals with_reducible rfl)
  try simp only [Act.put, List.setIfInBounds_toArray, List.set_cons_zero, List.set_cons_succ]
  refine Sim.takeP (i := 3) (d := some 13) (v := ?_) rfl rfl (by kernel_rfl) (by kernel_rfl) (by kernel_rfl) (fun _ _ _ h => h) (by first | exact XStab.true | exact XStab.rd) ?_ ?_
  rotate_left
  · first | refine Or.inl ⟨by rfl, fun w => ?_⟩ | (refine Or.inr ⟨by rfl, ?_⟩; with_reducible rfl)
    first | done | (go_simp; all_goals with_reducible rfl)
  try simp only [Act.put, List.setIfInBounds_toArray, List.set_cons_zero, List.set_cons_succ]
  refine Sim.takeP (i := 8) (d := some 18) (v := ?_) rfl rfl (by kernel_rfl) (by kernel_rfl) (by kernel_rfl) (fun _ _ _ h => h) (by first | exact XStab.true | exact XStab.rd) ?_ ?_
  rotate_left
  · first | refine Or.inl ⟨by rfl, fun w => ?_⟩ | (refine Or.inr ⟨by rfl, ?_⟩; with_reducible rfl)
    first | done | (go_simp; all_goals with_reducible rfl)
  try simp only [Act.put, List.setIfInBounds_toArray, List.set_cons_zero, List.set_cons_succ]
  refine Sim.many (rs := [2, 7]) (by kernel_rfl) (by decide) ?_
  refine AllS.cons (oi := { dst := some 12, op := Op.call { callee := Callee.value (Operand.func 45), args := #[Operand.tmp 11, Operand.const (Value.int IntKind.i64 256)], argTypes := #[48, 3] }, type := 3, pos := "l20_draw.go:306", after := #[{ on := 1, ground := Ground.data }], guard := none }) rfl (by rfl) (fun w0 hO hX K hK => ?_) ?_
  rotate_left
  refine AllS.cons (oi := { dst := some 17, op := Op.buildSlice 55 7 #[(0, Operand.const (Value.int IntKind.i64 0)), (1, Operand.const (Value.int IntKind.i64 0)), (2, Operand.const (Value.int IntKind.i64 1)), (3, Operand.const (Value.int IntKind.i64 1)), (4, Operand.const (Value.int IntKind.i64 1)), (5, Operand.const (Value.int IntKind.i64 2)), (6, Operand.const (Value.int IntKind.i64 3))], type := 55, pos := "l20_draw.go:306", after := #[{ on := 14, ground := Ground.gcOnly Departure.lateStores }], guard := none }) rfl (by rfl) (fun w0 hO hX K hK => ?_) ?_
  rotate_left
  exact AllS.nil
  rotate_right 2
  have hF := hO; (try simp only [Own, Item.Holds, apartI, CellsAt, Nat.reduceAdd, Nat.zero_add, List.mem_cons, List.not_mem_nil, or_false, forall_eq_or_imp, forall_eq, ne_eq, false_imp_iff, implies_true, and_true] at hF)
  go_simp
  refine (pick_any r (0 + 500 + 0) _ _ hX (by omega) (by decide) (by decide)).mono ?_
  rintro e wa ⟨pk0, lo0, hi0, rfl, hR4, hB4⟩
  have mb0 : IntKind.i64.wrap (pk0 * 12) = pk0 * 12 := IntWalk.i64_in _ (by omega)
  have sb0 := seven_bd pk0
  obtain ⟨y0, hy0⟩ : ∃ y, ([0, 0, 1, 1, 1, 2, 3] : List Int).getD pk0.toNat 0 = y := ⟨_, rfl⟩
  rw [hy0] at sb0
  obtain ⟨ya0, yb0⟩ := sb0
  apply hK _ _ _ (fun W => Rd W r (0 + 500 + 1))
  · exact Own.but hr2 (Stab.but hr2) (hO.base.trans hB4) hB4 hO
  · exact hR4.mono (by omega)
  · exact XStab.rd
  · exact fun _ _ h => h
  clear hR4 hB4
  clear hK K hF hO
  try simp only [Act.put, List.setIfInBounds_toArray, List.set_cons_zero, List.set_cons_succ]
  refine Sim.many (rs := [4, 7]) (by kernel_rfl) (by decide) ?_
  refine AllS.cons (oi := { dst := some 14, op := Op.call { callee := Callee.value (Operand.func 45), args := #[Operand.tmp 13, Operand.const (Value.int IntKind.i64 40)], argTypes := #[48, 3] }, type := 3, pos := "l20_draw.go:306", after := #[{ on := 3, ground := Ground.data }, { on := 2, ground := Ground.chain }], guard := none }) rfl (by rfl) (fun w0 hO hX K hK => ?_) ?_
  rotate_left
  refine AllS.cons (oi := { dst := some 17, op := Op.buildSlice 55 7 #[(0, Operand.const (Value.int IntKind.i64 0)), (1, Operand.const (Value.int IntKind.i64 0)), (2, Operand.const (Value.int IntKind.i64 1)), (3, Operand.const (Value.int IntKind.i64 1)), (4, Operand.const (Value.int IntKind.i64 1)), (5, Operand.const (Value.int IntKind.i64 2)), (6, Operand.const (Value.int IntKind.i64 3))], type := 55, pos := "l20_draw.go:306", after := #[{ on := 14, ground := Ground.gcOnly Departure.lateStores }], guard := none }) rfl (by rfl) (fun w0 hO hX K hK => ?_) ?_
  rotate_left
  exact AllS.nil
  rotate_right 2
  have hF := hO; (try simp only [Own, Item.Holds, apartI, CellsAt, Nat.reduceAdd, Nat.zero_add, List.mem_cons, List.not_mem_nil, or_false, forall_eq_or_imp, forall_eq, ne_eq, false_imp_iff, implies_true, and_true] at hF)
  go_simp
  refine (pick_any r (0 + 500 + 1) _ _ hX (by omega) (by decide) (by decide)).mono ?_
  rintro e wa ⟨pk1, lo1, hi1, rfl, hR4, hB4⟩
  have mb1 : IntKind.i64.wrap (pk1 * 12) = pk1 * 12 := IntWalk.i64_in _ (by omega)
  have sb1 := seven_bd pk1
  obtain ⟨y1, hy1⟩ : ∃ y, ([0, 0, 1, 1, 1, 2, 3] : List Int).getD pk1.toNat 0 = y := ⟨_, rfl⟩
  rw [hy1] at sb1
  obtain ⟨ya1, yb1⟩ := sb1
  apply hK _ _ _ (fun W => Rd W r (0 + 500 + 2))
  · exact Own.but hr2 (Stab.but hr2) (hO.base.trans hB4) hB4 hO
  · exact hR4.mono (by omega)
  · exact XStab.rd
  · exact fun _ _ h => h
  clear hR4 hB4
  clear hK K hF hO
  try simp only [Act.put, List.setIfInBounds_toArray, List.set_cons_zero, List.set_cons_succ]
  refine Sim.takeP (i := 5) (d := some 15) (v := ?_) rfl rfl (by kernel_rfl) (by kernel_rfl) (by kernel_rfl) (fun _ _ _ h => h) (by first | exact XStab.true | exact XStab.rd) ?_ ?_
  rotate_left
  · first | refine Or.inl ⟨by rfl, fun w => ?_⟩ | (refine Or.inr ⟨by rfl, ?_⟩; with_reducible rfl)
    first | done | (go_simp; all_goals with_reducible rfl)
  try simp only [Act.put, List.setIfInBounds_toArray, List.set_cons_zero, List.set_cons_succ]
  refine Sim.many (rs := [6, 7, 9]) (by kernel_rfl) (by decide) ?_
  refine AllS.cons (oi := { dst := some 16, op := Op.buildSlice 55 4 #[(0, Operand.tmp 12), (1, Operand.tmp 15), (2, Operand.const (Value.int IntKind.i64 (-1))), (3, Operand.const (Value.int IntKind.i64 9223372036854775807))], type := 55, pos := "l20_draw.go:306", after := #[{ on := 2, ground := Ground.data }, { on := 5, ground := Ground.data }, { on := 14, ground := Ground.gcOnly Departure.lateStores }], guard := none }) rfl (by rfl) (fun w0 hO hX K hK => ?_) ?_
  rotate_left
  refine AllS.cons (oi := { dst := some 17, op := Op.buildSlice 55 7 #[(0, Operand.const (Value.int IntKind.i64 0)), (1, Operand.const (Value.int IntKind.i64 0)), (2, Operand.const (Value.int IntKind.i64 1)), (3, Operand.const (Value.int IntKind.i64 1)), (4, Operand.const (Value.int IntKind.i64 1)), (5, Operand.const (Value.int IntKind.i64 2)), (6, Operand.const (Value.int IntKind.i64 3))], type := 55, pos := "l20_draw.go:306", after := #[{ on := 14, ground := Ground.gcOnly Departure.lateStores }], guard := none }) rfl (by rfl) (fun w0 hO hX K hK => ?_) ?_
  rotate_left
  refine AllS.cons (oi := { dst := some 19, op := Op.call { callee := Callee.value (Operand.func 45), args := #[Operand.tmp 18, Operand.const (Value.int IntKind.i64 7)], argTypes := #[48, 3] }, type := 3, pos := "l20_draw.go:306", after := #[{ on := 8, ground := Ground.data }, { on := 4, ground := Ground.chain }], guard := none }) rfl (by rfl) (fun w0 hO hX K hK => ?_) ?_
  rotate_left
  exact AllS.nil
  rotate_right 3
  have hF := hO; (try simp only [Own, Item.Holds, apartI, CellsAt, Nat.reduceAdd, Nat.zero_add, List.mem_cons, List.not_mem_nil, or_false, forall_eq_or_imp, forall_eq, ne_eq, false_imp_iff, implies_true, and_true] at hF)
  go_simp
  apply hK _ _ _ (fun W => Rd W r (0 + 500 + 2))
  (repeat (first | (with_reducible exact hO) | (with_reducible apply Own.alloc) | (with_reducible apply Own.drew) | ((with_reducible apply Own.set_at); (focus (show _ ≤ _; omega)))))
  · first | exact trivial | exact hX.below (below1 _) | exact hX.keep ((Below.refl _ _).setCell (by dsimp only; omega) _)
  · exact (by first | exact XStab.true | exact XStab.rd)
  · first | exact fun _ _ h => h.2 | exact fun h => absurd h (by decide)
  try simp only [upd, updI, List.map_cons, List.map_nil, eq_self, if_true, if_false, reduceIte, Nat.add_eq_left, Nat.left_eq_add, Nat.reduceEqDiff, List.set_cons_zero, List.set_cons_succ, hF]
  clear hK K hF hO
  try simp only [Act.put, List.setIfInBounds_toArray, List.set_cons_zero, List.set_cons_succ]
  refine Sim.many (rs := [7, 9]) (by kernel_rfl) (by decide) ?_
  refine AllS.cons (oi := { dst := some 17, op := Op.buildSlice 55 7 #[(0, Operand.const (Value.int IntKind.i64 0)), (1, Operand.const (Value.int IntKind.i64 0)), (2, Operand.const (Value.int IntKind.i64 1)), (3, Operand.const (Value.int IntKind.i64 1)), (4, Operand.const (Value.int IntKind.i64 1)), (5, Operand.const (Value.int IntKind.i64 2)), (6, Operand.const (Value.int IntKind.i64 3))], type := 55, pos := "l20_draw.go:306", after := #[{ on := 14, ground := Ground.gcOnly Departure.lateStores }], guard := none }) rfl (by rfl) (fun w0 hO hX K hK => ?_) ?_
  rotate_left
  refine AllS.cons (oi := { dst := some 19, op := Op.call { callee := Callee.value (Operand.func 45), args := #[Operand.tmp 18, Operand.const (Value.int IntKind.i64 7)], argTypes := #[48, 3] }, type := 3, pos := "l20_draw.go:306", after := #[{ on := 8, ground := Ground.data }, { on := 4, ground := Ground.chain }], guard := none }) rfl (by rfl) (fun w0 hO hX K hK => ?_) ?_
  rotate_left
  exact AllS.nil
  rotate_right 2
  have hF := hO; (try simp only [Own, Item.Holds, apartI, CellsAt, Nat.reduceAdd, Nat.zero_add, List.mem_cons, List.not_mem_nil, or_false, forall_eq_or_imp, forall_eq, ne_eq, false_imp_iff, implies_true, and_true] at hF)
  go_simp
  apply hK _ _ _ (fun W => Rd W r (0 + 500 + 2))
  (repeat (first | (with_reducible exact hO) | (with_reducible apply Own.alloc) | (with_reducible apply Own.drew) | ((with_reducible apply Own.set_at); (focus (show _ ≤ _; omega)))))
  · first | exact trivial | exact hX.below (below1 _) | exact hX.keep ((Below.refl _ _).setCell (by dsimp only; omega) _)
  · exact (by first | exact XStab.true | exact XStab.rd)
  · first | exact fun _ _ h => h.2 | exact fun h => absurd h (by decide)
  try simp only [upd, updI, List.map_cons, List.map_nil, eq_self, if_true, if_false, reduceIte, Nat.add_eq_left, Nat.left_eq_add, Nat.reduceEqDiff, List.set_cons_zero, List.set_cons_succ, hF]
  clear hK K hF hO
  try simp only [Act.put, List.setIfInBounds_toArray, List.set_cons_zero, List.set_cons_succ]
  refine Sim.one' (i := 9) (oi := { dst := some 19, op := Op.call { callee := Callee.value (Operand.func 45), args := #[Operand.tmp 18, Operand.const (Value.int IntKind.i64 7)], argTypes := #[48, 3] }, type := 3, pos := "l20_draw.go:306", after := #[{ on := 8, ground := Ground.data }, { on := 4, ground := Ground.chain }], guard := none }) (by kernel_rfl) rfl (by rfl) (fun w0 hO hX K hK => ?_)
  have hF := hO; (try simp only [Own, Item.Holds, apartI, CellsAt, Nat.reduceAdd, Nat.zero_add, List.mem_cons, List.not_mem_nil, or_false, forall_eq_or_imp, forall_eq, ne_eq, false_imp_iff, implies_true, and_true] at hF)
  go_simp
  refine (pick_any r (0 + 500 + 2) _ _ hX (by omega) (by decide) (by decide)).mono ?_
  rintro e wa ⟨pk2, lo2, hi2, rfl, hR4, hB4⟩
  have mb2 : IntKind.i64.wrap (pk2 * 12) = pk2 * 12 := IntWalk.i64_in _ (by omega)
  have sb2 := seven_bd pk2
  obtain ⟨y2, hy2⟩ : ∃ y, ([0, 0, 1, 1, 1, 2, 3] : List Int).getD pk2.toNat 0 = y := ⟨_, rfl⟩
  rw [hy2] at sb2
  obtain ⟨ya2, yb2⟩ := sb2
  apply hK _ _ _ (fun W => Rd W r (0 + 500 + 3))
  · exact Own.but hr2 (Stab.but hr2) (hO.base.trans hB4) hB4 hO
  · exact hR4.mono (by omega)
  · exact XStab.rd
  · exact fun _ _ h => h
  clear hR4 hB4
  clear hK K hF hO
  try simp only [Act.put, List.setIfInBounds_toArray, List.set_cons_zero, List.set_cons_succ]
  refine Sim.takeP (i := 10) (d := some 20) (v := ?_) rfl rfl (by kernel_rfl) (by kernel_rfl) (by kernel_rfl) (fun _ _ _ h => h) (by first | exact XStab.true | exact XStab.rd) ?_ ?_
  rotate_left
  · first | refine Or.inl ⟨by rfl, fun w => ?_⟩ | (refine Or.inr ⟨by rfl, ?_⟩; with_reducible rfl)
    first | done | (go_simp; all_goals with_reducible rfl)
  try simp only [Act.put, List.setIfInBounds_toArray, List.set_cons_zero, List.set_cons_succ]
  refine Sim.take (i := 11) (d := some 21) (v := ?_) rfl rfl (by kernel_rfl) (by kernel_rfl) (by kernel_rfl) (by kernel_rfl) (fun _ _ _ h => h) (by first | exact XStab.true | exact XStab.rd) ?_ ?_
  rotate_left
  · first | refine Or.inl ⟨by rfl, fun w hO => ?_⟩ | (refine Or.inr ⟨by rfl, ?_⟩; with_reducible rfl)
    first | done | (have hF := hO; (try simp only [Own, Item.Holds, apartI, CellsAt, Nat.reduceAdd, Nat.zero_add, List.mem_cons, List.not_mem_nil, or_false, forall_eq_or_imp, forall_eq, ne_eq, false_imp_iff, implies_true, and_true] at hF); ((try (have hc1 := hO.int_at (x := pk2) [0, 0, 1, 1, 1, 2, 3] (by first | exact List.mem_cons_self | exact List.mem_cons_of_mem _ List.mem_cons_self) lo2 (by simpa using hi2); rw [hy2] at hc1)); (try (have hc2 := hO.int_at (x := y2) [pk0, pk1 * 12, -1, 9223372036854775807] (by first | exact List.mem_cons_self | exact List.mem_cons_of_mem _ List.mem_cons_self) ya2 (by simpa using yb2); rw [show ([pk0, pk1 * 12, -1, 9223372036854775807] : List Int).getD y2.toNat 0 = four pk0 pk1 y2 from rfl] at hc2))); refine Out.same ?_; go_simp; all_goals with_reducible rfl)
  try simp only [Act.put, List.setIfInBounds_toArray, List.set_cons_zero, List.set_cons_succ]
  refine Sim.takeP (i := 12) (d := some 22) (v := ?_) rfl rfl (by kernel_rfl) (by kernel_rfl) (by kernel_rfl) (fun _ _ _ h => h) (by first | exact XStab.true | exact XStab.rd) ?_ ?_
  rotate_left
  · first | refine Or.inl ⟨by rfl, fun w => ?_⟩ | (refine Or.inr ⟨by rfl, ?_⟩; with_reducible rfl)
    first | done | (go_simp; all_goals with_reducible rfl)
  try simp only [Act.put, List.setIfInBounds_toArray, List.set_cons_zero, List.set_cons_succ]
  refine Sim.take (i := 13) (d := some 23) (v := ?_) rfl rfl (by kernel_rfl) (by kernel_rfl) (by kernel_rfl) (by kernel_rfl) (fun _ _ _ h => h) (by first | exact XStab.true | exact XStab.rd) ?_ ?_
  rotate_left
  · first | refine Or.inl ⟨by rfl, fun w hO => ?_⟩ | (refine Or.inr ⟨by rfl, ?_⟩; with_reducible rfl)
    first | done | (have hF := hO; (try simp only [Own, Item.Holds, apartI, CellsAt, Nat.reduceAdd, Nat.zero_add, List.mem_cons, List.not_mem_nil, or_false, forall_eq_or_imp, forall_eq, ne_eq, false_imp_iff, implies_true, and_true] at hF); ((try (have hc1 := hO.int_at (x := pk2) [0, 0, 1, 1, 1, 2, 3] (by first | exact List.mem_cons_self | exact List.mem_cons_of_mem _ List.mem_cons_self) lo2 (by simpa using hi2); rw [hy2] at hc1)); (try (have hc2 := hO.int_at (x := y2) [pk0, pk1 * 12, -1, 9223372036854775807] (by first | exact List.mem_cons_self | exact List.mem_cons_of_mem _ List.mem_cons_self) ya2 (by simpa using yb2); rw [show ([pk0, pk1 * 12, -1, 9223372036854775807] : List Int).getD y2.toNat 0 = four pk0 pk1 y2 from rfl] at hc2))); refine Out.same ?_; go_simp; all_goals with_reducible rfl)
  try simp only [Act.put, List.setIfInBounds_toArray, List.set_cons_zero, List.set_cons_succ]
  refine Sim.takeP (i := 14) (d := some 2) (v := ?_) rfl rfl (by kernel_rfl) (by kernel_rfl) (by kernel_rfl) (fun _ _ _ h => h) (by first | exact XStab.true | exact XStab.rd) ?_ ?_
  rotate_left
  · first | refine Or.inl ⟨by rfl, fun w => ?_⟩ | (refine Or.inr ⟨by rfl, ?_⟩; with_reducible rfl)
    first | done | (go_simp; all_goals with_reducible rfl)
  try simp only [Act.put, List.setIfInBounds_toArray, List.set_cons_zero, List.set_cons_succ]
  refine Sim.takeP (i := 15) (d := some 3) (v := ?_) rfl rfl (by kernel_rfl) (by kernel_rfl) (by kernel_rfl) (fun _ _ _ h => h) (by first | exact XStab.true | exact XStab.rd) ?_ ?_
  rotate_left
  · first | refine Or.inl ⟨by rfl, fun w => ?_⟩ | (refine Or.inr ⟨by rfl, ?_⟩; with_reducible rfl)
    first | done | (go_simp; all_goals with_reducible rfl)
  try simp only [Act.put, List.setIfInBounds_toArray, List.set_cons_zero, List.set_cons_succ]
  refine Sim.done (by kernel_rfl) (fun w1 hO hX => ?_) _
  (try simp only [World.size_alloc1, World.size_drew, Nat.reduceAdd] at hO); (try simp only [upd, updI, List.map_cons, List.map_nil, eq_self, if_true, if_false, reduceIte, Nat.add_eq_left, Nat.left_eq_add, Nat.reduceEqDiff, List.set_cons_zero, List.set_cons_succ] at hO)
  have hF := hO; (try simp only [Own, Item.Holds, apartI, CellsAt, Nat.reduceAdd, Nat.zero_add, List.mem_cons, List.not_mem_nil, or_false, forall_eq_or_imp, forall_eq, ne_eq, false_imp_iff, implies_true, and_true] at hF)
  rotate_left 1
  have hF := hO; (try simp only [Own, Item.Holds, apartI, CellsAt, Nat.reduceAdd, Nat.zero_add, List.mem_cons, List.not_mem_nil, or_false, forall_eq_or_imp, forall_eq, ne_eq, false_imp_iff, implies_true, and_true] at hF)
  go_simp
  refine (pick_any r (0 + 500 + 2) _ _ hX (by omega) (by decide) (by decide)).mono ?_
  rintro e wa ⟨pk2, lo2, hi2, rfl, hR4, hB4⟩
  have mb2 : IntKind.i64.wrap (pk2 * 12) = pk2 * 12 := IntWalk.i64_in _ (by omega)
  have sb2 := seven_bd pk2
  obtain ⟨y2, hy2⟩ : ∃ y, ([0, 0, 1, 1, 1, 2, 3] : List Int).getD pk2.toNat 0 = y := ⟨_, rfl⟩
  rw [hy2] at sb2
  obtain ⟨ya2, yb2⟩ := sb2
  apply hK _ _ _ (fun W => Rd W r (0 + 500 + 3))
  · exact Own.but hr2 (Stab.but hr2) (hO.base.trans hB4) hB4 hO
  · exact hR4.mono (by omega)
  · exact XStab.rd
  · exact fun _ _ h => h
  clear hR4 hB4
  clear hK K hF hO
  try simp only [Act.put, List.setIfInBounds_toArray, List.set_cons_zero, List.set_cons_succ]
  refine Sim.takeP (i := 14) (d := some 2) (v := ?_) rfl rfl (by kernel_rfl) (by kernel_rfl) (by kernel_rfl) (fun _ _ _ h => h) (by first | exact XStab.true | exact XStab.rd) ?_ ?_
  rotate_left
  · first | refine Or.inl ⟨by rfl, fun w => ?_⟩ | (refine Or.inr ⟨by rfl, ?_⟩; with_reducible rfl)
    first | done | (go_simp; all_goals with_reducible rfl)
  try simp only [Act.put, List.setIfInBounds_toArray, List.set_cons_zero, List.set_cons_succ]
  refine Sim.one' (i := 7) (oi := { dst := some 17, op := Op.buildSlice 55 7 #[(0, Operand.const (Value.int IntKind.i64 0)), (1, Operand.const (Value.int IntKind.i64 0)), (2, Operand.const (Value.int IntKind.i64 1)), (3, Operand.const (Value.int IntKind.i64 1)), (4, Operand.const (Value.int IntKind.i64 1)), (5, Operand.const (Value.int IntKind.i64 2)), (6, Operand.const (Value.int IntKind.i64 3))], type := 55, pos := "l20_draw.go:306", after := #[{ on := 14, ground := Ground.gcOnly Departure.lateStores }], guard := none }) (by kernel_rfl) rfl (by rfl) (fun w0 hO hX K hK => ?_)
  have hF := hO; (try simp only [Own, Item.Holds, apartI, CellsAt, Nat.reduceAdd, Nat.zero_add, List.mem_cons, List.not_mem_nil, or_false, forall_eq_or_imp, forall_eq, ne_eq, false_imp_iff, implies_true, and_true] at hF)
  go_simp
  apply hK _ _ _ (fun W => Rd W r (0 + 500 + 3))
  (repeat (first | (with_reducible exact hO) | (with_reducible apply Own.alloc) | (with_reducible apply Own.drew) | ((with_reducible apply Own.set_at); (focus (show _ ≤ _; omega)))))
  · first | exact trivial | exact hX.below (below1 _) | exact hX.keep ((Below.refl _ _).setCell (by dsimp only; omega) _)
  · exact (by first | exact XStab.true | exact XStab.rd)
  · first | exact fun _ _ h => h.2 | exact fun h => absurd h (by decide)
  try simp only [upd, updI, List.map_cons, List.map_nil, eq_self, if_true, if_false, reduceIte, Nat.add_eq_left, Nat.left_eq_add, Nat.reduceEqDiff, List.set_cons_zero, List.set_cons_succ, hF]
  clear hK K hF hO
  try simp only [Act.put, List.setIfInBounds_toArray, List.set_cons_zero, List.set_cons_succ]
  refine Sim.takeP (i := 10) (d := some 20) (v := ?_) rfl rfl (by kernel_rfl) (by kernel_rfl) (by kernel_rfl) (fun _ _ _ h => h) (by first | exact XStab.true | exact XStab.rd) ?_ ?_
  rotate_left
  · first | refine Or.inl ⟨by rfl, fun w => ?_⟩ | (refine Or.inr ⟨by rfl, ?_⟩; with_reducible rfl)
    first | done | (go_simp; all_goals with_reducible rfl)
  try simp only [Act.put, List.setIfInBounds_toArray, List.set_cons_zero, List.set_cons_succ]
  refine Sim.take (i := 11) (d := some 21) (v := ?_) rfl rfl (by kernel_rfl) (by kernel_rfl) (by kernel_rfl) (by kernel_rfl) (fun _ _ _ h => h) (by first | exact XStab.true | exact XStab.rd) ?_ ?_
  rotate_left
  · first | refine Or.inl ⟨by rfl, fun w hO => ?_⟩ | (refine Or.inr ⟨by rfl, ?_⟩; with_reducible rfl)
    first | done | (have hF := hO; (try simp only [Own, Item.Holds, apartI, CellsAt, Nat.reduceAdd, Nat.zero_add, List.mem_cons, List.not_mem_nil, or_false, forall_eq_or_imp, forall_eq, ne_eq, false_imp_iff, implies_true, and_true] at hF); ((try (have hc1 := hO.int_at (x := pk2) [0, 0, 1, 1, 1, 2, 3] (by first | exact List.mem_cons_self | exact List.mem_cons_of_mem _ List.mem_cons_self) lo2 (by simpa using hi2); rw [hy2] at hc1)); (try (have hc2 := hO.int_at (x := y2) [pk0, pk1 * 12, -1, 9223372036854775807] (by first | exact List.mem_cons_self | exact List.mem_cons_of_mem _ List.mem_cons_self) ya2 (by simpa using yb2); rw [show ([pk0, pk1 * 12, -1, 9223372036854775807] : List Int).getD y2.toNat 0 = four pk0 pk1 y2 from rfl] at hc2))); refine Out.same ?_; go_simp; all_goals with_reducible rfl)
  try simp only [Act.put, List.setIfInBounds_toArray, List.set_cons_zero, List.set_cons_succ]
  refine Sim.takeP (i := 12) (d := some 22) (v := ?_) rfl rfl (by kernel_rfl) (by kernel_rfl) (by kernel_rfl) (fun _ _ _ h => h) (by first | exact XStab.true | exact XStab.rd) ?_ ?_
  rotate_left
  · first | refine Or.inl ⟨by rfl, fun w => ?_⟩ | (refine Or.inr ⟨by rfl, ?_⟩; with_reducible rfl)
    first | done | (go_simp; all_goals with_reducible rfl)
  try simp only [Act.put, List.setIfInBounds_toArray, List.set_cons_zero, List.set_cons_succ]
  refine Sim.take (i := 13) (d := some 23) (v := ?_) rfl rfl (by kernel_rfl) (by kernel_rfl) (by kernel_rfl) (by kernel_rfl) (fun _ _ _ h => h) (by first | exact XStab.true | exact XStab.rd) ?_ ?_
  rotate_left
  · first | refine Or.inl ⟨by rfl, fun w hO => ?_⟩ | (refine Or.inr ⟨by rfl, ?_⟩; with_reducible rfl)
    first | done | (have hF := hO; (try simp only [Own, Item.Holds, apartI, CellsAt, Nat.reduceAdd, Nat.zero_add, List.mem_cons, List.not_mem_nil, or_false, forall_eq_or_imp, forall_eq, ne_eq, false_imp_iff, implies_true, and_true] at hF); ((try (have hc1 := hO.int_at (x := pk2) [0, 0, 1, 1, 1, 2, 3] (by first | exact List.mem_cons_self | exact List.mem_cons_of_mem _ List.mem_cons_self) lo2 (by simpa using hi2); rw [hy2] at hc1)); (try (have hc2 := hO.int_at (x := y2) [pk0, pk1 * 12, -1, 9223372036854775807] (by first | exact List.mem_cons_self | exact List.mem_cons_of_mem _ List.mem_cons_self) ya2 (by simpa using yb2); rw [show ([pk0, pk1 * 12, -1, 9223372036854775807] : List Int).getD y2.toNat 0 = four pk0 pk1 y2 from rfl] at hc2))); refine Out.same ?_; go_simp; all_goals with_reducible rfl)
  try simp only [Act.put, List.setIfInBounds_toArray, List.set_cons_zero, List.set_cons_succ]
  refine Sim.takeP (i := 15) (d := some 3) (v := ?_) rfl rfl (by kernel_rfl) (by kernel_rfl) (by kernel_rfl) (fun _ _ _ h => h) (by first | exact XStab.true | exact XStab.rd) ?_ ?_
  rotate_left
  · first | refine Or.inl ⟨by rfl, fun w => ?_⟩ | (refine Or.inr ⟨by rfl, ?_⟩; with_reducible rfl)
    first | done | (go_simp; all_goals with_reducible rfl)
  try simp only [Act.put, List.setIfInBounds_toArray, List.set_cons_zero, List.set_cons_succ]
  refine Sim.done (by kernel_rfl) (fun w1 hO hX => ?_) _
  (try simp only [World.size_alloc1, World.size_drew, Nat.reduceAdd] at hO); (try simp only [upd, updI, List.map_cons, List.map_nil, eq_self, if_true, if_false, reduceIte, Nat.add_eq_left, Nat.left_eq_add, Nat.reduceEqDiff, List.set_cons_zero, List.set_cons_succ] at hO)
  have hF := hO; (try simp only [Own, Item.Holds, apartI, CellsAt, Nat.reduceAdd, Nat.zero_add, List.mem_cons, List.not_mem_nil, or_false, forall_eq_or_imp, forall_eq, ne_eq, false_imp_iff, implies_true, and_true] at hF)
  rotate_left 1
  have hF := hO; (try simp only [Own, Item.Holds, apartI, CellsAt, Nat.reduceAdd, Nat.zero_add, List.mem_cons, List.not_mem_nil, or_false, forall_eq_or_imp, forall_eq, ne_eq, false_imp_iff, implies_true, and_true] at hF)
  go_simp
  apply hK _ _ _ (fun W => Rd W r (0 + 500 + 2))
  (repeat (first | (with_reducible exact hO) | (with_reducible apply Own.alloc) | (with_reducible apply Own.drew) | ((with_reducible apply Own.set_at); (focus (show _ ≤ _; omega)))))
  · first | exact trivial | exact hX.below (below1 _) | exact hX.keep ((Below.refl _ _).setCell (by dsimp only; omega) _)
  · exact (by first | exact XStab.true | exact XStab.rd)
  · first | exact fun _ _ h => h.2 | exact fun h => absurd h (by decide)
  try simp only [upd, updI, List.map_cons, List.map_nil, eq_self, if_true, if_false, reduceIte, Nat.add_eq_left, Nat.left_eq_add, Nat.reduceEqDiff, List.set_cons_zero, List.set_cons_succ, hF]
  clear hK K hF hO
  try simp only [Act.put, List.setIfInBounds_toArray, List.set_cons_zero, List.set_cons_succ]
  refine Sim.many (rs := [6, 9]) (by kernel_rfl) (by decide) ?_
  refine AllS.cons (oi := { dst := some 16, op := Op.buildSlice 55 4 #[(0, Operand.tmp 12), (1, Operand.tmp 15), (2, Operand.const (Value.int IntKind.i64 (-1))), (3, Operand.const (Value.int IntKind.i64 9223372036854775807))], type := 55, pos := "l20_draw.go:306", after := #[{ on := 2, ground := Ground.data }, { on := 5, ground := Ground.data }, { on := 14, ground := Ground.gcOnly Departure.lateStores }], guard := none }) rfl (by rfl) (fun w0 hO hX K hK => ?_) ?_
  rotate_left
  refine AllS.cons (oi := { dst := some 19, op := Op.call { callee := Callee.value (Operand.func 45), args := #[Operand.tmp 18, Operand.const (Value.int IntKind.i64 7)], argTypes := #[48, 3] }, type := 3, pos := "l20_draw.go:306", after := #[{ on := 8, ground := Ground.data }, { on := 4, ground := Ground.chain }], guard := none }) rfl (by rfl) (fun w0 hO hX K hK => ?_) ?_
  rotate_left
  exact AllS.nil
  rotate_right 2
  have hF := hO; (try simp only [Own, Item.Holds, apartI, CellsAt, Nat.reduceAdd, Nat.zero_add, List.mem_cons, List.not_mem_nil, or_false, forall_eq_or_imp, forall_eq, ne_eq, false_imp_iff, implies_true, and_true] at hF)
  go_simp
  apply hK _ _ _ (fun W => Rd W r (0 + 500 + 2))
  (repeat (first | (with_reducible exact hO) | (with_reducible apply Own.alloc) | (with_reducible apply Own.drew) | ((with_reducible apply Own.set_at); (focus (show _ ≤ _; omega)))))
  · first | exact trivial | exact hX.below (below1 _) | exact hX.keep ((Below.refl _ _).setCell (by dsimp only; omega) _)
  · exact (by first | exact XStab.true | exact XStab.rd)
  · first | exact fun _ _ h => h.2 | exact fun h => absurd h (by decide)
  try simp only [upd, updI, List.map_cons, List.map_nil, eq_self, if_true, if_false, reduceIte, Nat.add_eq_left, Nat.left_eq_add, Nat.reduceEqDiff, List.set_cons_zero, List.set_cons_succ, hF]
  clear hK K hF hO
  try simp only [Act.put, List.setIfInBounds_toArray, List.set_cons_zero, List.set_cons_succ]
  refine Sim.one' (i := 9) (oi := { dst := some 19, op := Op.call { callee := Callee.value (Operand.func 45), args := #[Operand.tmp 18, Operand.const (Value.int IntKind.i64 7)], argTypes := #[48, 3] }, type := 3, pos := "l20_draw.go:306", after := #[{ on := 8, ground := Ground.data }, { on := 4, ground := Ground.chain }], guard := none }) (by kernel_rfl) rfl (by rfl) (fun w0 hO hX K hK => ?_)
  have hF := hO; (try simp only [Own, Item.Holds, apartI, CellsAt, Nat.reduceAdd, Nat.zero_add, List.mem_cons, List.not_mem_nil, or_false, forall_eq_or_imp, forall_eq, ne_eq, false_imp_iff, implies_true, and_true] at hF)
  go_simp
  refine (pick_any r (0 + 500 + 2) _ _ hX (by omega) (by decide) (by decide)).mono ?_
  rintro e wa ⟨pk2, lo2, hi2, rfl, hR4, hB4⟩
  have mb2 : IntKind.i64.wrap (pk2 * 12) = pk2 * 12 := IntWalk.i64_in _ (by omega)
  have sb2 := seven_bd pk2
  obtain ⟨y2, hy2⟩ : ∃ y, ([0, 0, 1, 1, 1, 2, 3] : List Int).getD pk2.toNat 0 = y := ⟨_, rfl⟩
  rw [hy2] at sb2
  obtain ⟨ya2, yb2⟩ := sb2
  apply hK _ _ _ (fun W => Rd W r (0 + 500 + 3))
  · exact Own.but hr2 (Stab.but hr2) (hO.base.trans hB4) hB4 hO
  · exact hR4.mono (by omega)
  · exact XStab.rd
  · exact fun _ _ h => h
  clear hR4 hB4
  clear hK K hF hO
  try simp only [Act.put, List.setIfInBounds_toArray, List.set_cons_zero, List.set_cons_succ]
  refine Sim.takeP (i := 10) (d := some 20) (v := ?_) rfl rfl (by kernel_rfl) (by kernel_rfl) (by kernel_rfl) (fun _ _ _ h => h) (by first | exact XStab.true | exact XStab.rd) ?_ ?_
  rotate_left
  · first | refine Or.inl ⟨by rfl, fun w => ?_⟩ | (refine Or.inr ⟨by rfl, ?_⟩; with_reducible rfl)
    first | done | (go_simp; all_goals with_reducible rfl)
  try simp only [Act.put, List.setIfInBounds_toArray, List.set_cons_zero, List.set_cons_succ]
  refine Sim.take (i := 11) (d := some 21) (v := ?_) rfl rfl (by kernel_rfl) (by kernel_rfl) (by kernel_rfl) (by kernel_rfl) (fun _ _ _ h => h) (by first | exact XStab.true | exact XStab.rd) ?_ ?_
  rotate_left
  · first | refine Or.inl ⟨by rfl, fun w hO => ?_⟩ | (refine Or.inr ⟨by rfl, ?_⟩; with_reducible rfl)
    first | done | (have hF := hO; (try simp only [Own, Item.Holds, apartI, CellsAt, Nat.reduceAdd, Nat.zero_add, List.mem_cons, List.not_mem_nil, or_false, forall_eq_or_imp, forall_eq, ne_eq, false_imp_iff, implies_true, and_true] at hF); ((try (have hc1 := hO.int_at (x := pk2) [0, 0, 1, 1, 1, 2, 3] (by first | exact List.mem_cons_self | exact List.mem_cons_of_mem _ List.mem_cons_self) lo2 (by simpa using hi2); rw [hy2] at hc1)); (try (have hc2 := hO.int_at (x := y2) [pk0, pk1 * 12, -1, 9223372036854775807] (by first | exact List.mem_cons_self | exact List.mem_cons_of_mem _ List.mem_cons_self) ya2 (by simpa using yb2); rw [show ([pk0, pk1 * 12, -1, 9223372036854775807] : List Int).getD y2.toNat 0 = four pk0 pk1 y2 from rfl] at hc2))); refine Out.same ?_; go_simp; all_goals with_reducible rfl)
  try simp only [Act.put, List.setIfInBounds_toArray, List.set_cons_zero, List.set_cons_succ]
  refine Sim.takeP (i := 12) (d := some 22) (v := ?_) rfl rfl (by kernel_rfl) (by kernel_rfl) (by kernel_rfl) (fun _ _ _ h => h) (by first | exact XStab.true | exact XStab.rd) ?_ ?_
  rotate_left
  · first | refine Or.inl ⟨by rfl, fun w => ?_⟩ | (refine Or.inr ⟨by rfl, ?_⟩; with_reducible rfl)
    first | done | (go_simp; all_goals with_reducible rfl)
  try simp only [Act.put, List.setIfInBounds_toArray, List.set_cons_zero, List.set_cons_succ]
  refine Sim.take (i := 13) (d := some 23) (v := ?_) rfl rfl (by kernel_rfl) (by kernel_rfl) (by kernel_rfl) (by kernel_rfl) (fun _ _ _ h => h) (by first | exact XStab.true | exact XStab.rd) ?_ ?_
  rotate_left
  · first | refine Or.inl ⟨by rfl, fun w hO => ?_⟩ | (refine Or.inr ⟨by rfl, ?_⟩; with_reducible rfl)
    first | done | (have hF := hO; (try simp only [Own, Item.Holds, apartI, CellsAt, Nat.reduceAdd, Nat.zero_add, List.mem_cons, List.not_mem_nil, or_false, forall_eq_or_imp, forall_eq, ne_eq, false_imp_iff, implies_true, and_true] at hF); ((try (have hc1 := hO.int_at (x := pk2) [0, 0, 1, 1, 1, 2, 3] (by first | exact List.mem_cons_self | exact List.mem_cons_of_mem _ List.mem_cons_self) lo2 (by simpa using hi2); rw [hy2] at hc1)); (try (have hc2 := hO.int_at (x := y2) [pk0, pk1 * 12, -1, 9223372036854775807] (by first | exact List.mem_cons_self | exact List.mem_cons_of_mem _ List.mem_cons_self) ya2 (by simpa using yb2); rw [show ([pk0, pk1 * 12, -1, 9223372036854775807] : List Int).getD y2.toNat 0 = four pk0 pk1 y2 from rfl] at hc2))); refine Out.same ?_; go_simp; all_goals with_reducible rfl)
  try simp only [Act.put, List.setIfInBounds_toArray, List.set_cons_zero, List.set_cons_succ]
  refine Sim.takeP (i := 14) (d := some 2) (v := ?_) rfl rfl (by kernel_rfl) (by kernel_rfl) (by kernel_rfl) (fun _ _ _ h => h) (by first | exact XStab.true | exact XStab.rd) ?_ ?_
  rotate_left
  · first | refine Or.inl ⟨by rfl, fun w => ?_⟩ | (refine Or.inr ⟨by rfl, ?_⟩; with_reducible rfl)
    first | done | (go_simp; all_goals with_reducible rfl)
  try simp only [Act.put, List.setIfInBounds_toArray, List.set_cons_zero, List.set_cons_succ]
  refine Sim.takeP (i := 15) (d := some 3) (v := ?_) rfl rfl (by kernel_rfl) (by kernel_rfl) (by kernel_rfl) (fun _ _ _ h => h) (by first | exact XStab.true | exact XStab.rd) ?_ ?_
  rotate_left
  · first | refine Or.inl ⟨by rfl, fun w => ?_⟩ | (refine Or.inr ⟨by rfl, ?_⟩; with_reducible rfl)
    first | done | (go_simp; all_goals with_reducible rfl)
  try simp only [Act.put, List.setIfInBounds_toArray, List.set_cons_zero, List.set_cons_succ]
  refine Sim.done (by kernel_rfl) (fun w1 hO hX => ?_) _
  (try simp only [World.size_alloc1, World.size_drew, Nat.reduceAdd] at hO); (try simp only [upd, updI, List.map_cons, List.map_nil, eq_self, if_true, if_false, reduceIte, Nat.add_eq_left, Nat.left_eq_add, Nat.reduceEqDiff, List.set_cons_zero, List.set_cons_succ] at hO)
  have hF := hO; (try simp only [Own, Item.Holds, apartI, CellsAt, Nat.reduceAdd, Nat.zero_add, List.mem_cons, List.not_mem_nil, or_false, forall_eq_or_imp, forall_eq, ne_eq, false_imp_iff, implies_true, and_true] at hF)
  rotate_left 1
  have hF := hO; (try simp only [Own, Item.Holds, apartI, CellsAt, Nat.reduceAdd, Nat.zero_add, List.mem_cons, List.not_mem_nil, or_false, forall_eq_or_imp, forall_eq, ne_eq, false_imp_iff, implies_true, and_true] at hF)
  go_simp
  refine (pick_any r (0 + 500 + 2) _ _ hX (by omega) (by decide) (by decide)).mono ?_
  rintro e wa ⟨pk2, lo2, hi2, rfl, hR4, hB4⟩
  have mb2 : IntKind.i64.wrap (pk2 * 12) = pk2 * 12 := IntWalk.i64_in _ (by omega)
  have sb2 := seven_bd pk2
  obtain ⟨y2, hy2⟩ : ∃ y, ([0, 0, 1, 1, 1, 2, 3] : List Int).getD pk2.toNat 0 = y := ⟨_, rfl⟩
  rw [hy2] at sb2
  obtain ⟨ya2, yb2⟩ := sb2
  apply hK _ _ _ (fun W => Rd W r (0 + 500 + 3))
  · exact Own.but hr2 (Stab.but hr2) (hO.base.trans hB4) hB4 hO
  · exact hR4.mono (by omega)
  · exact XStab.rd
  · exact fun _ _ h => h
  clear hR4 hB4
  clear hK K hF hO
  try simp only [Act.put, List.setIfInBounds_toArray, List.set_cons_zero, List.set_cons_succ]
  refine Sim.takeP (i := 10) (d := some 20) (v := ?_) rfl rfl (by kernel_rfl) (by kernel_rfl) (by kernel_rfl) (fun _ _ _ h => h) (by first | exact XStab.true | exact XStab.rd) ?_ ?_
  rotate_left
  · first | refine Or.inl ⟨by rfl, fun w => ?_⟩ | (refine Or.inr ⟨by rfl, ?_⟩; with_reducible rfl)
    first | done | (go_simp; all_goals with_reducible rfl)
  try simp only [Act.put, List.setIfInBounds_toArray, List.set_cons_zero, List.set_cons_succ]
  refine Sim.take (i := 11) (d := some 21) (v := ?_) rfl rfl (by kernel_rfl) (by kernel_rfl) (by kernel_rfl) (by kernel_rfl) (fun _ _ _ h => h) (by first | exact XStab.true | exact XStab.rd) ?_ ?_
  rotate_left
  · first | refine Or.inl ⟨by rfl, fun w hO => ?_⟩ | (refine Or.inr ⟨by rfl, ?_⟩; with_reducible rfl)
    first | done | (have hF := hO; (try simp only [Own, Item.Holds, apartI, CellsAt, Nat.reduceAdd, Nat.zero_add, List.mem_cons, List.not_mem_nil, or_false, forall_eq_or_imp, forall_eq, ne_eq, false_imp_iff, implies_true, and_true] at hF); ((try (have hc1 := hO.int_at (x := pk2) [0, 0, 1, 1, 1, 2, 3] (by first | exact List.mem_cons_self | exact List.mem_cons_of_mem _ List.mem_cons_self) lo2 (by simpa using hi2); rw [hy2] at hc1)); (try (have hc2 := hO.int_at (x := y2) [pk0, pk1 * 12, -1, 9223372036854775807] (by first | exact List.mem_cons_self | exact List.mem_cons_of_mem _ List.mem_cons_self) ya2 (by simpa using yb2); rw [show ([pk0, pk1 * 12, -1, 9223372036854775807] : List Int).getD y2.toNat 0 = four pk0 pk1 y2 from rfl] at hc2))); refine Out.same ?_; go_simp; all_goals with_reducible rfl)
  try simp only [Act.put, List.setIfInBounds_toArray, List.set_cons_zero, List.set_cons_succ]
  refine Sim.takeP (i := 14) (d := some 2) (v := ?_) rfl rfl (by kernel_rfl) (by kernel_rfl) (by kernel_rfl) (fun _ _ _ h => h) (by first | exact XStab.true | exact XStab.rd) ?_ ?_
  rotate_left
  · first | refine Or.inl ⟨by rfl, fun w => ?_⟩ | (refine Or.inr ⟨by rfl, ?_⟩; with_reducible rfl)
    first | done | (go_simp; all_goals with_reducible rfl)
  try simp only [Act.put, List.setIfInBounds_toArray, List.set_cons_zero, List.set_cons_succ]
  refine Sim.one' (i := 6) (oi := { dst := some 16, op := Op.buildSlice 55 4 #[(0, Operand.tmp 12), (1, Operand.tmp 15), (2, Operand.const (Value.int IntKind.i64 (-1))), (3, Operand.const (Value.int IntKind.i64 9223372036854775807))], type := 55, pos := "l20_draw.go:306", after := #[{ on := 2, ground := Ground.data }, { on := 5, ground := Ground.data }, { on := 14, ground := Ground.gcOnly Departure.lateStores }], guard := none }) (by kernel_rfl) rfl (by rfl) (fun w0 hO hX K hK => ?_)
  have hF := hO; (try simp only [Own, Item.Holds, apartI, CellsAt, Nat.reduceAdd, Nat.zero_add, List.mem_cons, List.not_mem_nil, or_false, forall_eq_or_imp, forall_eq, ne_eq, false_imp_iff, implies_true, and_true] at hF)
  go_simp
  apply hK _ _ _ (fun W => Rd W r (0 + 500 + 3))
  (repeat (first | (with_reducible exact hO) | (with_reducible apply Own.alloc) | (with_reducible apply Own.drew) | ((with_reducible apply Own.set_at); (focus (show _ ≤ _; omega)))))
  · first | exact trivial | exact hX.below (below1 _) | exact hX.keep ((Below.refl _ _).setCell (by dsimp only; omega) _)
  · exact (by first | exact XStab.true | exact XStab.rd)
  · first | exact fun _ _ h => h.2 | exact fun h => absurd h (by decide)
  try simp only [upd, updI, List.map_cons, List.map_nil, eq_self, if_true, if_false, reduceIte, Nat.add_eq_left, Nat.left_eq_add, Nat.reduceEqDiff, List.set_cons_zero, List.set_cons_succ, hF]
  clear hK K hF hO
  try simp only [Act.put, List.setIfInBounds_toArray, List.set_cons_zero, List.set_cons_succ]
  refine Sim.takeP (i := 12) (d := some 22) (v := ?_) rfl rfl (by kernel_rfl) (by kernel_rfl) (by kernel_rfl) (fun _ _ _ h => h) (by first | exact XStab.true | exact XStab.rd) ?_ ?_
  rotate_left
  · first | refine Or.inl ⟨by rfl, fun w => ?_⟩ | (refine Or.inr ⟨by rfl, ?_⟩; with_reducible rfl)
    first | done | (go_simp; all_goals with_reducible rfl)
  try simp only [Act.put, List.setIfInBounds_toArray, List.set_cons_zero, List.set_cons_succ]
  refine Sim.take (i := 13) (d := some 23) (v := ?_) rfl rfl (by kernel_rfl) (by kernel_rfl) (by kernel_rfl) (by kernel_rfl) (fun _ _ _ h => h) (by first | exact XStab.true | exact XStab.rd) ?_ ?_
  rotate_left
  · first | refine Or.inl ⟨by rfl, fun w hO => ?_⟩ | (refine Or.inr ⟨by rfl, ?_⟩; with_reducible rfl)
    first | done | (have hF := hO; (try simp only [Own, Item.Holds, apartI, CellsAt, Nat.reduceAdd, Nat.zero_add, List.mem_cons, List.not_mem_nil, or_false, forall_eq_or_imp, forall_eq, ne_eq, false_imp_iff, implies_true, and_true] at hF); ((try (have hc1 := hO.int_at (x := pk2) [0, 0, 1, 1, 1, 2, 3] (by first | exact List.mem_cons_self | exact List.mem_cons_of_mem _ List.mem_cons_self) lo2 (by simpa using hi2); rw [hy2] at hc1)); (try (have hc2 := hO.int_at (x := y2) [pk0, pk1 * 12, -1, 9223372036854775807] (by first | exact List.mem_cons_self | exact List.mem_cons_of_mem _ List.mem_cons_self) ya2 (by simpa using yb2); rw [show ([pk0, pk1 * 12, -1, 9223372036854775807] : List Int).getD y2.toNat 0 = four pk0 pk1 y2 from rfl] at hc2))); refine Out.same ?_; go_simp; all_goals with_reducible rfl)
  try simp only [Act.put, List.setIfInBounds_toArray, List.set_cons_zero, List.set_cons_succ]
  refine Sim.takeP (i := 15) (d := some 3) (v := ?_) rfl rfl (by kernel_rfl) (by kernel_rfl) (by kernel_rfl) (fun _ _ _ h => h) (by first | exact XStab.true | exact XStab.rd) ?_ ?_
  rotate_left
  · first | refine Or.inl ⟨by rfl, fun w => ?_⟩ | (refine Or.inr ⟨by rfl, ?_⟩; with_reducible rfl)
    first | done | (go_simp; all_goals with_reducible rfl)
  try simp only [Act.put, List.setIfInBounds_toArray, List.set_cons_zero, List.set_cons_succ]
  refine Sim.done (by kernel_rfl) (fun w1 hO hX => ?_) _
  (try simp only [World.size_alloc1, World.size_drew, Nat.reduceAdd] at hO); (try simp only [upd, updI, List.map_cons, List.map_nil, eq_self, if_true, if_false, reduceIte, Nat.add_eq_left, Nat.left_eq_add, Nat.reduceEqDiff, List.set_cons_zero, List.set_cons_succ] at hO)
  have hF := hO; (try simp only [Own, Item.Holds, apartI, CellsAt, Nat.reduceAdd, Nat.zero_add, List.mem_cons, List.not_mem_nil, or_false, forall_eq_or_imp, forall_eq, ne_eq, false_imp_iff, implies_true, and_true] at hF)
  rotate_left 1
  have hF := hO; (try simp only [Own, Item.Holds, apartI, CellsAt, Nat.reduceAdd, Nat.zero_add, List.mem_cons, List.not_mem_nil, or_false, forall_eq_or_imp, forall_eq, ne_eq, false_imp_iff, implies_true, and_true] at hF)
  go_simp
  refine (pick_any r (0 + 500 + 2) _ _ hX (by omega) (by decide) (by decide)).mono ?_
  rintro e wa ⟨pk2, lo2, hi2, rfl, hR4, hB4⟩
  have mb2 : IntKind.i64.wrap (pk2 * 12) = pk2 * 12 := IntWalk.i64_in _ (by omega)
  have sb2 := seven_bd pk2
  obtain ⟨y2, hy2⟩ : ∃ y, ([0, 0, 1, 1, 1, 2, 3] : List Int).getD pk2.toNat 0 = y := ⟨_, rfl⟩
  rw [hy2] at sb2
  obtain ⟨ya2, yb2⟩ := sb2
  apply hK _ _ _ (fun W => Rd W r (0 + 500 + 3))
  · exact Own.but hr2 (Stab.but hr2) (hO.base.trans hB4) hB4 hO
  · exact hR4.mono (by omega)
  · exact XStab.rd
  · exact fun _ _ h => h
  clear hR4 hB4
  clear hK K hF hO
  try simp only [Act.put, List.setIfInBounds_toArray, List.set_cons_zero, List.set_cons_succ]
  refine Sim.takeP (i := 14) (d := some 2) (v := ?_) rfl rfl (by kernel_rfl) (by kernel_rfl) (by kernel_rfl) (fun _ _ _ h => h) (by first | exact XStab.true | exact XStab.rd) ?_ ?_
  rotate_left
  · first | refine Or.inl ⟨by rfl, fun w => ?_⟩ | (refine Or.inr ⟨by rfl, ?_⟩; with_reducible rfl)
    first | done | (go_simp; all_goals with_reducible rfl)
  try simp only [Act.put, List.setIfInBounds_toArray, List.set_cons_zero, List.set_cons_succ]
  refine Sim.many (rs := [6, 7]) (by kernel_rfl) (by decide) ?_
  refine AllS.cons (oi := { dst := some 16, op := Op.buildSlice 55 4 #[(0, Operand.tmp 12), (1, Operand.tmp 15), (2, Operand.const (Value.int IntKind.i64 (-1))), (3, Operand.const (Value.int IntKind.i64 9223372036854775807))], type := 55, pos := "l20_draw.go:306", after := #[{ on := 2, ground := Ground.data }, { on := 5, ground := Ground.data }, { on := 14, ground := Ground.gcOnly Departure.lateStores }], guard := none }) rfl (by rfl) (fun w0 hO hX K hK => ?_) ?_
  rotate_left
  refine AllS.cons (oi := { dst := some 17, op := Op.buildSlice 55 7 #[(0, Operand.const (Value.int IntKind.i64 0)), (1, Operand.const (Value.int IntKind.i64 0)), (2, Operand.const (Value.int IntKind.i64 1)), (3, Operand.const (Value.int IntKind.i64 1)), (4, Operand.const (Value.int IntKind.i64 1)), (5, Operand.const (Value.int IntKind.i64 2)), (6, Operand.const (Value.int IntKind.i64 3))], type := 55, pos := "l20_draw.go:306", after := #[{ on := 14, ground := Ground.gcOnly Departure.lateStores }], guard := none }) rfl (by rfl) (fun w0 hO hX K hK => ?_) ?_
  rotate_left
  exact AllS.nil
  rotate_right 2
  have hF := hO; (try simp only [Own, Item.Holds, apartI, CellsAt, Nat.reduceAdd, Nat.zero_add, List.mem_cons, List.not_mem_nil, or_false, forall_eq_or_imp, forall_eq, ne_eq, false_imp_iff, implies_true, and_true] at hF)
  go_simp
  apply hK _ _ _ (fun W => Rd W r (0 + 500 + 3))
  (repeat (first | (with_reducible exact hO) | (with_reducible apply Own.alloc) | (with_reducible apply Own.drew) | ((with_reducible apply Own.set_at); (focus (show _ ≤ _; omega)))))
  · first | exact trivial | exact hX.below (below1 _) | exact hX.keep ((Below.refl _ _).setCell (by dsimp only; omega) _)
  · exact (by first | exact XStab.true | exact XStab.rd)
  · first | exact fun _ _ h => h.2 | exact fun h => absurd h (by decide)
  try simp only [upd, updI, List.map_cons, List.map_nil, eq_self, if_true, if_false, reduceIte, Nat.add_eq_left, Nat.left_eq_add, Nat.reduceEqDiff, List.set_cons_zero, List.set_cons_succ, hF]
  clear hK K hF hO
  try simp only [Act.put, List.setIfInBounds_toArray, List.set_cons_zero, List.set_cons_succ]
  refine Sim.one' (i := 7) (oi := { dst := some 17, op := Op.buildSlice 55 7 #[(0, Operand.const (Value.int IntKind.i64 0)), (1, Operand.const (Value.int IntKind.i64 0)), (2, Operand.const (Value.int IntKind.i64 1)), (3, Operand.const (Value.int IntKind.i64 1)), (4, Operand.const (Value.int IntKind.i64 1)), (5, Operand.const (Value.int IntKind.i64 2)), (6, Operand.const (Value.int IntKind.i64 3))], type := 55, pos := "l20_draw.go:306", after := #[{ on := 14, ground := Ground.gcOnly Departure.lateStores }], guard := none }) (by kernel_rfl) rfl (by rfl) (fun w0 hO hX K hK => ?_)
  have hF := hO; (try simp only [Own, Item.Holds, apartI, CellsAt, Nat.reduceAdd, Nat.zero_add, List.mem_cons, List.not_mem_nil, or_false, forall_eq_or_imp, forall_eq, ne_eq, false_imp_iff, implies_true, and_true] at hF)
  go_simp
  apply hK _ _ _ (fun W => Rd W r (0 + 500 + 3))
  (repeat (first | (with_reducible exact hO) | (with_reducible apply Own.alloc) | (with_reducible apply Own.drew) | ((with_reducible apply Own.set_at); (focus (show _ ≤ _; omega)))))
  · first | exact trivial | exact hX.below (below1 _) | exact hX.keep ((Below.refl _ _).setCell (by dsimp only; omega) _)
  · exact (by first | exact XStab.true | exact XStab.rd)
  · first | exact fun _ _ h => h.2 | exact fun h => absurd h (by decide)
  try simp only [upd, updI, List.map_cons, List.map_nil, eq_self, if_true, if_false, reduceIte, Nat.add_eq_left, Nat.left_eq_add, Nat.reduceEqDiff, List.set_cons_zero, List.set_cons_succ, hF]
  clear hK K hF hO
  try simp only [Act.put, List.setIfInBounds_toArray, List.set_cons_zero, List.set_cons_succ]
  refine Sim.takeP (i := 10) (d := some 20) (v := ?_) rfl rfl (by kernel_rfl) (by kernel_rfl) (by kernel_rfl) (fun _ _ _ h => h) (by first | exact XStab.true | exact XStab.rd) ?_ ?_
  rotate_left
  · first | refine Or.inl ⟨by rfl, fun w => ?_⟩ | (refine Or.inr ⟨by rfl, ?_⟩; with_reducible rfl)
    first | done | (go_simp; all_goals with_reducible rfl)
  try simp only [Act.put, List.setIfInBounds_toArray, List.set_cons_zero, List.set_cons_succ]
  refine Sim.take (i := 11) (d := some 21) (v := ?_) rfl rfl (by kernel_rfl) (by kernel_rfl) (by kernel_rfl) (by kernel_rfl) (fun _ _ _ h => h) (by first | exact XStab.true | exact XStab.rd) ?_ ?_
  rotate_left
  · first | refine Or.inl ⟨by rfl, fun w hO => ?_⟩ | (refine Or.inr ⟨by rfl, ?_⟩; with_reducible rfl)
    first | done | (have hF := hO; (try simp only [Own, Item.Holds, apartI, CellsAt, Nat.reduceAdd, Nat.zero_add, List.mem_cons, List.not_mem_nil, or_false, forall_eq_or_imp, forall_eq, ne_eq, false_imp_iff, implies_true, and_true] at hF); ((try (have hc1 := hO.int_at (x := pk2) [0, 0, 1, 1, 1, 2, 3] (by first | exact List.mem_cons_self | exact List.mem_cons_of_mem _ List.mem_cons_self) lo2 (by simpa using hi2); rw [hy2] at hc1)); (try (have hc2 := hO.int_at (x := y2) [pk0, pk1 * 12, -1, 9223372036854775807] (by first | exact List.mem_cons_self | exact List.mem_cons_of_mem _ List.mem_cons_self) ya2 (by simpa using yb2); rw [show ([pk0, pk1 * 12, -1, 9223372036854775807] : List Int).getD y2.toNat 0 = four pk0 pk1 y2 from rfl] at hc2))); refine Out.same ?_; go_simp; all_goals with_reducible rfl)
  try simp only [Act.put, List.setIfInBounds_toArray, List.set_cons_zero, List.set_cons_succ]
  refine Sim.takeP (i := 12) (d := some 22) (v := ?_) rfl rfl (by kernel_rfl) (by kernel_rfl) (by kernel_rfl) (fun _ _ _ h => h) (by first | exact XStab.true | exact XStab.rd) ?_ ?_
  rotate_left
  · first | refine Or.inl ⟨by rfl, fun w => ?_⟩ | (refine Or.inr ⟨by rfl, ?_⟩; with_reducible rfl)
    first | done | (go_simp; all_goals with_reducible rfl)
  try simp only [Act.put, List.setIfInBounds_toArray, List.set_cons_zero, List.set_cons_succ]
  refine Sim.take (i := 13) (d := some 23) (v := ?_) rfl rfl (by kernel_rfl) (by kernel_rfl) (by kernel_rfl) (by kernel_rfl) (fun _ _ _ h => h) (by first | exact XStab.true | exact XStab.rd) ?_ ?_
  rotate_left
  · first | refine Or.inl ⟨by rfl, fun w hO => ?_⟩ | (refine Or.inr ⟨by rfl, ?_⟩; with_reducible rfl)
    first | done | (have hF := hO; (try simp only [Own, Item.Holds, apartI, CellsAt, Nat.reduceAdd, Nat.zero_add, List.mem_cons, List.not_mem_nil, or_false, forall_eq_or_imp, forall_eq, ne_eq, false_imp_iff, implies_true, and_true] at hF); ((try (have hc1 := hO.int_at (x := pk2) [0, 0, 1, 1, 1, 2, 3] (by first | exact List.mem_cons_self | exact List.mem_cons_of_mem _ List.mem_cons_self) lo2 (by simpa using hi2); rw [hy2] at hc1)); (try (have hc2 := hO.int_at (x := y2) [pk0, pk1 * 12, -1, 9223372036854775807] (by first | exact List.mem_cons_self | exact List.mem_cons_of_mem _ List.mem_cons_self) ya2 (by simpa using yb2); rw [show ([pk0, pk1 * 12, -1, 9223372036854775807] : List Int).getD y2.toNat 0 = four pk0 pk1 y2 from rfl] at hc2))); refine Out.same ?_; go_simp; all_goals with_reducible rfl)
  try simp only [Act.put, List.setIfInBounds_toArray, List.set_cons_zero, List.set_cons_succ]
  refine Sim.takeP (i := 15) (d := some 3) (v := ?_) rfl rfl (by kernel_rfl) (by kernel_rfl) (by kernel_rfl) (fun _ _ _ h => h) (by first | exact XStab.true | exact XStab.rd) ?_ ?_
  rotate_left
  · first | refine Or.inl ⟨by rfl, fun w => ?_⟩ | (refine Or.inr ⟨by rfl, ?_⟩; with_reducible rfl)
    first | done | (go_simp; all_goals with_reducible rfl)
  try simp only [Act.put, List.setIfInBounds_toArray, List.set_cons_zero, List.set_cons_succ]
  refine Sim.done (by kernel_rfl) (fun w1 hO hX => ?_) _
  (try simp only [World.size_alloc1, World.size_drew, Nat.reduceAdd] at hO); (try simp only [upd, updI, List.map_cons, List.map_nil, eq_self, if_true, if_false, reduceIte, Nat.add_eq_left, Nat.left_eq_add, Nat.reduceEqDiff, List.set_cons_zero, List.set_cons_succ] at hO)
  have hF := hO; (try simp only [Own, Item.Holds, apartI, CellsAt, Nat.reduceAdd, Nat.zero_add, List.mem_cons, List.not_mem_nil, or_false, forall_eq_or_imp, forall_eq, ne_eq, false_imp_iff, implies_true, and_true] at hF)
  rotate_left 1
  have hF := hO; (try simp only [Own, Item.Holds, apartI, CellsAt, Nat.reduceAdd, Nat.zero_add, List.mem_cons, List.not_mem_nil, or_false, forall_eq_or_imp, forall_eq, ne_eq, false_imp_iff, implies_true, and_true] at hF)
  go_simp
  apply hK _ _ _ (fun W => Rd W r (0 + 500 + 3))
  (repeat (first | (with_reducible exact hO) | (with_reducible apply Own.alloc) | (with_reducible apply Own.drew) | ((with_reducible apply Own.set_at); (focus (show _ ≤ _; omega)))))
  · first | exact trivial | exact hX.below (below1 _) | exact hX.keep ((Below.refl _ _).setCell (by dsimp only; omega) _)
  · exact (by first | exact XStab.true | exact XStab.rd)
  · first | exact fun _ _ h => h.2 | exact fun h => absurd h (by decide)
  try simp only [upd, updI, List.map_cons, List.map_nil, eq_self, if_true, if_false, reduceIte, Nat.add_eq_left, Nat.left_eq_add, Nat.reduceEqDiff, List.set_cons_zero, List.set_cons_succ, hF]
  clear hK K hF hO
  try simp only [Act.put, List.setIfInBounds_toArray, List.set_cons_zero, List.set_cons_succ]
  refine Sim.takeP (i := 10) (d := some 20) (v := ?_) rfl rfl (by kernel_rfl) (by kernel_rfl) (by kernel_rfl) (fun _ _ _ h => h) (by first | exact XStab.true | exact XStab.rd) ?_ ?_
  rotate_left
  · first | refine Or.inl ⟨by rfl, fun w => ?_⟩ | (refine Or.inr ⟨by rfl, ?_⟩; with_reducible rfl)
    first | done | (go_simp; all_goals with_reducible rfl)
  try simp only [Act.put, List.setIfInBounds_toArray, List.set_cons_zero, List.set_cons_succ]
  refine Sim.take (i := 11) (d := some 21) (v := ?_) rfl rfl (by kernel_rfl) (by kernel_rfl) (by kernel_rfl) (by kernel_rfl) (fun _ _ _ h => h) (by first | exact XStab.true | exact XStab.rd) ?_ ?_
  rotate_left
  · first | refine Or.inl ⟨by rfl, fun w hO => ?_⟩ | (refine Or.inr ⟨by rfl, ?_⟩; with_reducible rfl)
    first | done | (have hF := hO; (try simp only [Own, Item.Holds, apartI, CellsAt, Nat.reduceAdd, Nat.zero_add, List.mem_cons, List.not_mem_nil, or_false, forall_eq_or_imp, forall_eq, ne_eq, false_imp_iff, implies_true, and_true] at hF); ((try (have hc1 := hO.int_at (x := pk2) [0, 0, 1, 1, 1, 2, 3] (by first | exact List.mem_cons_self | exact List.mem_cons_of_mem _ List.mem_cons_self) lo2 (by simpa using hi2); rw [hy2] at hc1)); (try (have hc2 := hO.int_at (x := y2) [pk0, pk1 * 12, -1, 9223372036854775807] (by first | exact List.mem_cons_self | exact List.mem_cons_of_mem _ List.mem_cons_self) ya2 (by simpa using yb2); rw [show ([pk0, pk1 * 12, -1, 9223372036854775807] : List Int).getD y2.toNat 0 = four pk0 pk1 y2 from rfl] at hc2))); refine Out.same ?_; go_simp; all_goals with_reducible rfl)
  try simp only [Act.put, List.setIfInBounds_toArray, List.set_cons_zero, List.set_cons_succ]
  refine Sim.one' (i := 6) (oi := { dst := some 16, op := Op.buildSlice 55 4 #[(0, Operand.tmp 12), (1, Operand.tmp 15), (2, Operand.const (Value.int IntKind.i64 (-1))), (3, Operand.const (Value.int IntKind.i64 9223372036854775807))], type := 55, pos := "l20_draw.go:306", after := #[{ on := 2, ground := Ground.data }, { on := 5, ground := Ground.data }, { on := 14, ground := Ground.gcOnly Departure.lateStores }], guard := none }) (by kernel_rfl) rfl (by rfl) (fun w0 hO hX K hK => ?_)
  have hF := hO; (try simp only [Own, Item.Holds, apartI, CellsAt, Nat.reduceAdd, Nat.zero_add, List.mem_cons, List.not_mem_nil, or_false, forall_eq_or_imp, forall_eq, ne_eq, false_imp_iff, implies_true, and_true] at hF)
  go_simp
  apply hK _ _ _ (fun W => Rd W r (0 + 500 + 3))
  (repeat (first | (with_reducible exact hO) | (with_reducible apply Own.alloc) | (with_reducible apply Own.drew) | ((with_reducible apply Own.set_at); (focus (show _ ≤ _; omega)))))
  · first | exact trivial | exact hX.below (below1 _) | exact hX.keep ((Below.refl _ _).setCell (by dsimp only; omega) _)
  · exact (by first | exact XStab.true | exact XStab.rd)
  · first | exact fun _ _ h => h.2 | exact fun h => absurd h (by decide)
  try simp only [upd, updI, List.map_cons, List.map_nil, eq_self, if_true, if_false, reduceIte, Nat.add_eq_left, Nat.left_eq_add, Nat.reduceEqDiff, List.set_cons_zero, List.set_cons_succ, hF]
  clear hK K hF hO
  try simp only [Act.put, List.setIfInBounds_toArray, List.set_cons_zero, List.set_cons_succ]
  refine Sim.takeP (i := 12) (d := some 22) (v := ?_) rfl rfl (by kernel_rfl) (by kernel_rfl) (by kernel_rfl) (fun _ _ _ h => h) (by first | exact XStab.true | exact XStab.rd) ?_ ?_
  rotate_left
  · first | refine Or.inl ⟨by rfl, fun w => ?_⟩ | (refine Or.inr ⟨by rfl, ?_⟩; with_reducible rfl)
    first | done | (go_simp; all_goals with_reducible rfl)
  try simp only [Act.put, List.setIfInBounds_toArray, List.set_cons_zero, List.set_cons_succ]
  refine Sim.take (i := 13) (d := some 23) (v := ?_) rfl rfl (by kernel_rfl) (by kernel_rfl) (by kernel_rfl) (by kernel_rfl) (fun _ _ _ h => h) (by first | exact XStab.true | exact XStab.rd) ?_ ?_
  rotate_left
  · first | refine Or.inl ⟨by rfl, fun w hO => ?_⟩ | (refine Or.inr ⟨by rfl, ?_⟩; with_reducible rfl)
    first | done | (have hF := hO; (try simp only [Own, Item.Holds, apartI, CellsAt, Nat.reduceAdd, Nat.zero_add, List.mem_cons, List.not_mem_nil, or_false, forall_eq_or_imp, forall_eq, ne_eq, false_imp_iff, implies_true, and_true] at hF); ((try (have hc1 := hO.int_at (x := pk2) [0, 0, 1, 1, 1, 2, 3] (by first | exact List.mem_cons_self | exact List.mem_cons_of_mem _ List.mem_cons_self) lo2 (by simpa using hi2); rw [hy2] at hc1)); (try (have hc2 := hO.int_at (x := y2) [pk0, pk1 * 12, -1, 9223372036854775807] (by first | exact List.mem_cons_self | exact List.mem_cons_of_mem _ List.mem_cons_self) ya2 (by simpa using yb2); rw [show ([pk0, pk1 * 12, -1, 9223372036854775807] : List Int).getD y2.toNat 0 = four pk0 pk1 y2 from rfl] at hc2))); refine Out.same ?_; go_simp; all_goals with_reducible rfl)
  try simp only [Act.put, List.setIfInBounds_toArray, List.set_cons_zero, List.set_cons_succ]
  refine Sim.takeP (i := 15) (d := some 3) (v := ?_) rfl rfl (by kernel_rfl) (by kernel_rfl) (by kernel_rfl) (fun _ _ _ h => h) (by first | exact XStab.true | exact XStab.rd) ?_ ?_
  rotate_left
  · first | refine Or.inl ⟨by rfl, fun w => ?_⟩ | (refine Or.inr ⟨by rfl, ?_⟩; with_reducible rfl)
    first | done | (go_simp; all_goals with_reducible rfl)
  try simp only [Act.put, List.setIfInBounds_toArray, List.set_cons_zero, List.set_cons_succ]
  refine Sim.done (by kernel_rfl) (fun w1 hO hX => ?_) _
  (try simp only [World.size_alloc1, World.size_drew, Nat.reduceAdd] at hO); (try simp only [upd, updI, List.map_cons, List.map_nil, eq_self, if_true, if_false, reduceIte, Nat.add_eq_left, Nat.left_eq_add, Nat.reduceEqDiff, List.set_cons_zero, List.set_cons_succ] at hO)
  have hF := hO; (try simp only [Own, Item.Holds, apartI, CellsAt, Nat.reduceAdd, Nat.zero_add, List.mem_cons, List.not_mem_nil, or_false, forall_eq_or_imp, forall_eq, ne_eq, false_imp_iff, implies_true, and_true] at hF)
  rotate_left 1
  have hF := hO; (try simp only [Own, Item.Holds, apartI, CellsAt, Nat.reduceAdd, Nat.zero_add, List.mem_cons, List.not_mem_nil, or_false, forall_eq_or_imp, forall_eq, ne_eq, false_imp_iff, implies_true, and_true] at hF)
  go_simp
  apply hK _ _ _ (fun W => Rd W r (0 + 500 + 1))
  (repeat (first | (with_reducible exact hO) | (with_reducible apply Own.alloc) | (with_reducible apply Own.drew) | ((with_reducible apply Own.set_at); (focus (show _ ≤ _; omega)))))
  · first | exact trivial | exact hX.below (below1 _) | exact hX.keep ((Below.refl _ _).setCell (by dsimp only; omega) _)
  · exact (by first | exact XStab.true | exact XStab.rd)
  · first | exact fun _ _ h => h.2 | exact fun h => absurd h (by decide)
  try simp only [upd, updI, List.map_cons, List.map_nil, eq_self, if_true, if_false, reduceIte, Nat.add_eq_left, Nat.left_eq_add, Nat.reduceEqDiff, List.set_cons_zero, List.set_cons_succ, hF]
  clear hK K hF hO
  try simp only [Act.put, List.setIfInBounds_toArray, List.set_cons_zero, List.set_cons_succ]
  refine Sim.one' (i := 4) (oi := { dst := some 14, op := Op.call { callee := Callee.value (Operand.func 45), args := #[Operand.tmp 13, Operand.const (Value.int IntKind.i64 40)], argTypes := #[48, 3] }, type := 3, pos := "l20_draw.go:306", after := #[{ on := 3, ground := Ground.data }, { on := 2, ground := Ground.chain }], guard := none }) (by kernel_rfl) rfl (by rfl) (fun w0 hO hX K hK => ?_)
  have hF := hO; (try simp only [Own, Item.Holds, apartI, CellsAt, Nat.reduceAdd, Nat.zero_add, List.mem_cons, List.not_mem_nil, or_false, forall_eq_or_imp, forall_eq, ne_eq, false_imp_iff, implies_true, and_true] at hF)
  go_simp
  refine (pick_any r (0 + 500 + 1) _ _ hX (by omega) (by decide) (by decide)).mono ?_
  rintro e wa ⟨pk1, lo1, hi1, rfl, hR4, hB4⟩
  have mb1 : IntKind.i64.wrap (pk1 * 12) = pk1 * 12 := IntWalk.i64_in _ (by omega)
  have sb1 := seven_bd pk1
  obtain ⟨y1, hy1⟩ : ∃ y, ([0, 0, 1, 1, 1, 2, 3] : List Int).getD pk1.toNat 0 = y := ⟨_, rfl⟩
  rw [hy1] at sb1
  obtain ⟨ya1, yb1⟩ := sb1
  apply hK _ _ _ (fun W => Rd W r (0 + 500 + 2))
  · exact Own.but hr2 (Stab.but hr2) (hO.base.trans hB4) hB4 hO
  · exact hR4.mono (by omega)
  · exact XStab.rd
  · exact fun _ _ h => h
  clear hR4 hB4
  clear hK K hF hO
  try simp only [Act.put, List.setIfInBounds_toArray, List.set_cons_zero, List.set_cons_succ]
  refine Sim.takeP (i := 5) (d := some 15) (v := ?_) rfl rfl (by kernel_rfl) (by kernel_rfl) (by kernel_rfl) (fun _ _ _ h => h) (by first | exact XStab.true | exact XStab.rd) ?_ ?_
  rotate_left
  · first | refine Or.inl ⟨by rfl, fun w => ?_⟩ | (refine Or.inr ⟨by rfl, ?_⟩; with_reducible rfl)
    first | done | (go_simp; all_goals with_reducible rfl)
  try simp only [Act.put, List.setIfInBounds_toArray, List.set_cons_zero, List.set_cons_succ]
  refine Sim.many (rs := [6, 9]) (by kernel_rfl) (by decide) ?_
  refine AllS.cons (oi := { dst := some 16, op := Op.buildSlice 55 4 #[(0, Operand.tmp 12), (1, Operand.tmp 15), (2, Operand.const (Value.int IntKind.i64 (-1))), (3, Operand.const (Value.int IntKind.i64 9223372036854775807))], type := 55, pos := "l20_draw.go:306", after := #[{ on := 2, ground := Ground.data }, { on := 5, ground := Ground.data }, { on := 14, ground := Ground.gcOnly Departure.lateStores }], guard := none }) rfl (by rfl) (fun w0 hO hX K hK => ?_) ?_
  rotate_left
  refine AllS.cons (oi := { dst := some 19, op := Op.call { callee := Callee.value (Operand.func 45), args := #[Operand.tmp 18, Operand.const (Value.int IntKind.i64 7)], argTypes := #[48, 3] }, type := 3, pos := "l20_draw.go:306", after := #[{ on := 8, ground := Ground.data }, { on := 4, ground := Ground.chain }], guard := none }) rfl (by rfl) (fun w0 hO hX K hK => ?_) ?_
  rotate_left
  exact AllS.nil
  rotate_right 2
  have hF := hO; (try simp only [Own, Item.Holds, apartI, CellsAt, Nat.reduceAdd, Nat.zero_add, List.mem_cons, List.not_mem_nil, or_false, forall_eq_or_imp, forall_eq, ne_eq, false_imp_iff, implies_true, and_true] at hF)
  go_simp
  apply hK _ _ _ (fun W => Rd W r (0 + 500 + 2))
  (repeat (first | (with_reducible exact hO) | (with_reducible apply Own.alloc) | (with_reducible apply Own.drew) | ((with_reducible apply Own.set_at); (focus (show _ ≤ _; omega)))))
  · first | exact trivial | exact hX.below (below1 _) | exact hX.keep ((Below.refl _ _).setCell (by dsimp only; omega) _)
  · exact (by first | exact XStab.true | exact XStab.rd)
  · first | exact fun _ _ h => h.2 | exact fun h => absurd h (by decide)
  try simp only [upd, updI, List.map_cons, List.map_nil, eq_self, if_true, if_false, reduceIte, Nat.add_eq_left, Nat.left_eq_add, Nat.reduceEqDiff, List.set_cons_zero, List.set_cons_succ, hF]
  clear hK K hF hO
  try simp only [Act.put, List.setIfInBounds_toArray, List.set_cons_zero, List.set_cons_succ]
  refine Sim.one' (i := 9) (oi := { dst := some 19, op := Op.call { callee := Callee.value (Operand.func 45), args := #[Operand.tmp 18, Operand.const (Value.int IntKind.i64 7)], argTypes := #[48, 3] }, type := 3, pos := "l20_draw.go:306", after := #[{ on := 8, ground := Ground.data }, { on := 4, ground := Ground.chain }], guard := none }) (by kernel_rfl) rfl (by rfl) (fun w0 hO hX K hK => ?_)
  have hF := hO; (try simp only [Own, Item.Holds, apartI, CellsAt, Nat.reduceAdd, Nat.zero_add, List.mem_cons, List.not_mem_nil, or_false, forall_eq_or_imp, forall_eq, ne_eq, false_imp_iff, implies_true, and_true] at hF)
  go_simp
  refine (pick_any r (0 + 500 + 2) _ _ hX (by omega) (by decide) (by decide)).mono ?_
  rintro e wa ⟨pk2, lo2, hi2, rfl, hR4, hB4⟩
  have mb2 : IntKind.i64.wrap (pk2 * 12) = pk2 * 12 := IntWalk.i64_in _ (by omega)
  have sb2 := seven_bd pk2
  obtain ⟨y2, hy2⟩ : ∃ y, ([0, 0, 1, 1, 1, 2, 3] : List Int).getD pk2.toNat 0 = y := ⟨_, rfl⟩
  rw [hy2] at sb2
  obtain ⟨ya2, yb2⟩ := sb2
  apply hK _ _ _ (fun W => Rd W r (0 + 500 + 3))
  · exact Own.but hr2 (Stab.but hr2) (hO.base.trans hB4) hB4 hO
  · exact hR4.mono (by omega)
  · exact XStab.rd
  · exact fun _ _ h => h
  clear hR4 hB4
  clear hK K hF hO
  try simp only [Act.put, List.setIfInBounds_toArray, List.set_cons_zero, List.set_cons_succ]
  refine Sim.takeP (i := 10) (d := some 20) (v := ?_) rfl rfl (by kernel_rfl) (by kernel_rfl) (by kernel_rfl) (fun _ _ _ h => h) (by first | exact XStab.true | exact XStab.rd) ?_ ?_
  rotate_left
  · first | refine Or.inl ⟨by rfl, fun w => ?_⟩ | (refine Or.inr ⟨by rfl, ?_⟩; with_reducible rfl)
    first | done | (go_simp; all_goals with_reducible rfl)
  try simp only [Act.put, List.setIfInBounds_toArray, List.set_cons_zero, List.set_cons_succ]
  refine Sim.take (i := 11) (d := some 21) (v := ?_) rfl rfl (by kernel_rfl) (by kernel_rfl) (by kernel_rfl) (by kernel_rfl) (fun _ _ _ h => h) (by first | exact XStab.true | exact XStab.rd) ?_ ?_
  rotate_left
  · first | refine Or.inl ⟨by rfl, fun w hO => ?_⟩ | (refine Or.inr ⟨by rfl, ?_⟩; with_reducible rfl)
    first | done | (have hF := hO; (try simp only [Own, Item.Holds, apartI, CellsAt, Nat.reduceAdd, Nat.zero_add, List.mem_cons, List.not_mem_nil, or_false, forall_eq_or_imp, forall_eq, ne_eq, false_imp_iff, implies_true, and_true] at hF); ((try (have hc1 := hO.int_at (x := pk2) [0, 0, 1, 1, 1, 2, 3] (by first | exact List.mem_cons_self | exact List.mem_cons_of_mem _ List.mem_cons_self) lo2 (by simpa using hi2); rw [hy2] at hc1)); (try (have hc2 := hO.int_at (x := y2) [pk0, pk1 * 12, -1, 9223372036854775807] (by first | exact List.mem_cons_self | exact List.mem_cons_of_mem _ List.mem_cons_self) ya2 (by simpa using yb2); rw [show ([pk0, pk1 * 12, -1, 9223372036854775807] : List Int).getD y2.toNat 0 = four pk0 pk1 y2 from rfl] at hc2))); refine Out.same ?_; go_simp; all_goals with_reducible rfl)
  try simp only [Act.put, List.setIfInBounds_toArray, List.set_cons_zero, List.set_cons_succ]
  refine Sim.takeP (i := 12) (d := some 22) (v := ?_) rfl rfl (by kernel_rfl) (by kernel_rfl) (by kernel_rfl) (fun _ _ _ h => h) (by first | exact XStab.true | exact XStab.rd) ?_ ?_
  rotate_left
  · first | refine Or.inl ⟨by rfl, fun w => ?_⟩ | (refine Or.inr ⟨by rfl, ?_⟩; with_reducible rfl)
    first | done | (go_simp; all_goals with_reducible rfl)
  try simp only [Act.put, List.setIfInBounds_toArray, List.set_cons_zero, List.set_cons_succ]
  refine Sim.take (i := 13) (d := some 23) (v := ?_) rfl rfl (by kernel_rfl) (by kernel_rfl) (by kernel_rfl) (by kernel_rfl) (fun _ _ _ h => h) (by first | exact XStab.true | exact XStab.rd) ?_ ?_
  rotate_left
  · first | refine Or.inl ⟨by rfl, fun w hO => ?_⟩ | (refine Or.inr ⟨by rfl, ?_⟩; with_reducible rfl)
    first | done | (have hF := hO; (try simp only [Own, Item.Holds, apartI, CellsAt, Nat.reduceAdd, Nat.zero_add, List.mem_cons, List.not_mem_nil, or_false, forall_eq_or_imp, forall_eq, ne_eq, false_imp_iff, implies_true, and_true] at hF); ((try (have hc1 := hO.int_at (x := pk2) [0, 0, 1, 1, 1, 2, 3] (by first | exact List.mem_cons_self | exact List.mem_cons_of_mem _ List.mem_cons_self) lo2 (by simpa using hi2); rw [hy2] at hc1)); (try (have hc2 := hO.int_at (x := y2) [pk0, pk1 * 12, -1, 9223372036854775807] (by first | exact List.mem_cons_self | exact List.mem_cons_of_mem _ List.mem_cons_self) ya2 (by simpa using yb2); rw [show ([pk0, pk1 * 12, -1, 9223372036854775807] : List Int).getD y2.toNat 0 = four pk0 pk1 y2 from rfl] at hc2))); refine Out.same ?_; go_simp; all_goals with_reducible rfl)
  try simp only [Act.put, List.setIfInBounds_toArray, List.set_cons_zero, List.set_cons_succ]
  refine Sim.takeP (i := 14) (d := some 2) (v := ?_) rfl rfl (by kernel_rfl) (by kernel_rfl) (by kernel_rfl) (fun _ _ _ h => h) (by first | exact XStab.true | exact XStab.rd) ?_ ?_
  rotate_left
  · first | refine Or.inl ⟨by rfl, fun w => ?_⟩ | (refine Or.inr ⟨by rfl, ?_⟩; with_reducible rfl)
    first | done | (go_simp; all_goals with_reducible rfl)
  try simp only [Act.put, List.setIfInBounds_toArray, List.set_cons_zero, List.set_cons_succ]
  refine Sim.takeP (i := 15) (d := some 3) (v := ?_) rfl rfl (by kernel_rfl) (by kernel_rfl) (by kernel_rfl) (fun _ _ _ h => h) (by first | exact XStab.true | exact XStab.rd) ?_ ?_
  rotate_left
  · first | refine Or.inl ⟨by rfl, fun w => ?_⟩ | (refine Or.inr ⟨by rfl, ?_⟩; with_reducible rfl)
    first | done | (go_simp; all_goals with_reducible rfl)
  try simp only [Act.put, List.setIfInBounds_toArray, List.set_cons_zero, List.set_cons_succ]
  refine Sim.done (by kernel_rfl) (fun w1 hO hX => ?_) _
  (try simp only [World.size_alloc1, World.size_drew, Nat.reduceAdd] at hO); (try simp only [upd, updI, List.map_cons, List.map_nil, eq_self, if_true, if_false, reduceIte, Nat.add_eq_left, Nat.left_eq_add, Nat.reduceEqDiff, List.set_cons_zero, List.set_cons_succ] at hO)
  have hF := hO; (try simp only [Own, Item.Holds, apartI, CellsAt, Nat.reduceAdd, Nat.zero_add, List.mem_cons, List.not_mem_nil, or_false, forall_eq_or_imp, forall_eq, ne_eq, false_imp_iff, implies_true, and_true] at hF)
  rotate_left 1
  have hF := hO; (try simp only [Own, Item.Holds, apartI, CellsAt, Nat.reduceAdd, Nat.zero_add, List.mem_cons, List.not_mem_nil, or_false, forall_eq_or_imp, forall_eq, ne_eq, false_imp_iff, implies_true, and_true] at hF)
  go_simp
  refine (pick_any r (0 + 500 + 2) _ _ hX (by omega) (by decide) (by decide)).mono ?_
  rintro e wa ⟨pk2, lo2, hi2, rfl, hR4, hB4⟩
  have mb2 : IntKind.i64.wrap (pk2 * 12) = pk2 * 12 := IntWalk.i64_in _ (by omega)
  have sb2 := seven_bd pk2
  obtain ⟨y2, hy2⟩ : ∃ y, ([0, 0, 1, 1, 1, 2, 3] : List Int).getD pk2.toNat 0 = y := ⟨_, rfl⟩
  rw [hy2] at sb2
  obtain ⟨ya2, yb2⟩ := sb2
  apply hK _ _ _ (fun W => Rd W r (0 + 500 + 3))
  · exact Own.but hr2 (Stab.but hr2) (hO.base.trans hB4) hB4 hO
  · exact hR4.mono (by omega)
  · exact XStab.rd
  · exact fun _ _ h => h
  clear hR4 hB4
  clear hK K hF hO
  try simp only [Act.put, List.setIfInBounds_toArray, List.set_cons_zero, List.set_cons_succ]
  refine Sim.takeP (i := 10) (d := some 20) (v := ?_) rfl rfl (by kernel_rfl) (by kernel_rfl) (by kernel_rfl) (fun _ _ _ h => h) (by first | exact XStab.true | exact XStab.rd) ?_ ?_
  rotate_left
  · first | refine Or.inl ⟨by rfl, fun w => ?_⟩ | (refine Or.inr ⟨by rfl, ?_⟩; with_reducible rfl)
    first | done | (go_simp; all_goals with_reducible rfl)
  try simp only [Act.put, List.setIfInBounds_toArray, List.set_cons_zero, List.set_cons_succ]
  refine Sim.take (i := 11) (d := some 21) (v := ?_) rfl rfl (by kernel_rfl) (by kernel_rfl) (by kernel_rfl) (by kernel_rfl) (fun _ _ _ h => h) (by first | exact XStab.true | exact XStab.rd) ?_ ?_
  rotate_left
  · first | refine Or.inl ⟨by rfl, fun w hO => ?_⟩ | (refine Or.inr ⟨by rfl, ?_⟩; with_reducible rfl)
    first | done | (have hF := hO; (try simp only [Own, Item.Holds, apartI, CellsAt, Nat.reduceAdd, Nat.zero_add, List.mem_cons, List.not_mem_nil, or_false, forall_eq_or_imp, forall_eq, ne_eq, false_imp_iff, implies_true, and_true] at hF); ((try (have hc1 := hO.int_at (x := pk2) [0, 0, 1, 1, 1, 2, 3] (by first | exact List.mem_cons_self | exact List.mem_cons_of_mem _ List.mem_cons_self) lo2 (by simpa using hi2); rw [hy2] at hc1)); (try (have hc2 := hO.int_at (x := y2) [pk0, pk1 * 12, -1, 9223372036854775807] (by first | exact List.mem_cons_self | exact List.mem_cons_of_mem _ List.mem_cons_self) ya2 (by simpa using yb2); rw [show ([pk0, pk1 * 12, -1, 9223372036854775807] : List Int).getD y2.toNat 0 = four pk0 pk1 y2 from rfl] at hc2))); refine Out.same ?_; go_simp; all_goals with_reducible rfl)
  try simp only [Act.put, List.setIfInBounds_toArray, List.set_cons_zero, List.set_cons_succ]
  refine Sim.takeP (i := 14) (d := some 2) (v := ?_) rfl rfl (by kernel_rfl) (by kernel_rfl) (by kernel_rfl) (fun _ _ _ h => h) (by first | exact XStab.true | exact XStab.rd) ?_ ?_
  rotate_left
  · first | refine Or.inl ⟨by rfl, fun w => ?_⟩ | (refine Or.inr ⟨by rfl, ?_⟩; with_reducible rfl)
    first | done | (go_simp; all_goals with_reducible rfl)
  try simp only [Act.put, List.setIfInBounds_toArray, List.set_cons_zero, List.set_cons_succ]
  refine Sim.one' (i := 6) (oi := { dst := some 16, op := Op.buildSlice 55 4 #[(0, Operand.tmp 12), (1, Operand.tmp 15), (2, Operand.const (Value.int IntKind.i64 (-1))), (3, Operand.const (Value.int IntKind.i64 9223372036854775807))], type := 55, pos := "l20_draw.go:306", after := #[{ on := 2, ground := Ground.data }, { on := 5, ground := Ground.data }, { on := 14, ground := Ground.gcOnly Departure.lateStores }], guard := none }) (by kernel_rfl) rfl (by rfl) (fun w0 hO hX K hK => ?_)
  have hF := hO; (try simp only [Own, Item.Holds, apartI, CellsAt, Nat.reduceAdd, Nat.zero_add, List.mem_cons, List.not_mem_nil, or_false, forall_eq_or_imp, forall_eq, ne_eq, false_imp_iff, implies_true, and_true] at hF)
  go_simp
  apply hK _ _ _ (fun W => Rd W r (0 + 500 + 3))
  (repeat (first | (with_reducible exact hO) | (with_reducible apply Own.alloc) | (with_reducible apply Own.drew) | ((with_reducible apply Own.set_at); (focus (show _ ≤ _; omega)))))
  · first | exact trivial | exact hX.below (below1 _) | exact hX.keep ((Below.refl _ _).setCell (by dsimp only; omega) _)
  · exact (by first | exact XStab.true | exact XStab.rd)
  · first | exact fun _ _ h => h.2 | exact fun h => absurd h (by decide)
  try simp only [upd, updI, List.map_cons, List.map_nil, eq_self, if_true, if_false, reduceIte, Nat.add_eq_left, Nat.left_eq_add, Nat.reduceEqDiff, List.set_cons_zero, List.set_cons_succ, hF]
  clear hK K hF hO
  try simp only [Act.put, List.setIfInBounds_toArray, List.set_cons_zero, List.set_cons_succ]
  refine Sim.takeP (i := 12) (d := some 22) (v := ?_) rfl rfl (by kernel_rfl) (by kernel_rfl) (by kernel_rfl) (fun _ _ _ h => h) (by first | exact XStab.true | exact XStab.rd) ?_ ?_
  rotate_left
  · first | refine Or.inl ⟨by rfl, fun w => ?_⟩ | (refine Or.inr ⟨by rfl, ?_⟩; with_reducible rfl)
    first | done | (go_simp; all_goals with_reducible rfl)
  try simp only [Act.put, List.setIfInBounds_toArray, List.set_cons_zero, List.set_cons_succ]
  refine Sim.take (i := 13) (d := some 23) (v := ?_) rfl rfl (by kernel_rfl) (by kernel_rfl) (by kernel_rfl) (by kernel_rfl) (fun _ _ _ h => h) (by first | exact XStab.true | exact XStab.rd) ?_ ?_
  rotate_left
  · first | refine Or.inl ⟨by rfl, fun w hO => ?_⟩ | (refine Or.inr ⟨by rfl, ?_⟩; with_reducible rfl)
    first | done | (have hF := hO; (try simp only [Own, Item.Holds, apartI, CellsAt, Nat.reduceAdd, Nat.zero_add, List.mem_cons, List.not_mem_nil, or_false, forall_eq_or_imp, forall_eq, ne_eq, false_imp_iff, implies_true, and_true] at hF); ((try (have hc1 := hO.int_at (x := pk2) [0, 0, 1, 1, 1, 2, 3] (by first | exact List.mem_cons_self | exact List.mem_cons_of_mem _ List.mem_cons_self) lo2 (by simpa using hi2); rw [hy2] at hc1)); (try (have hc2 := hO.int_at (x := y2) [pk0, pk1 * 12, -1, 9223372036854775807] (by first | exact List.mem_cons_self | exact List.mem_cons_of_mem _ List.mem_cons_self) ya2 (by simpa using yb2); rw [show ([pk0, pk1 * 12, -1, 9223372036854775807] : List Int).getD y2.toNat 0 = four pk0 pk1 y2 from rfl] at hc2))); refine Out.same ?_; go_simp; all_goals with_reducible rfl)
  try simp only [Act.put, List.setIfInBounds_toArray, List.set_cons_zero, List.set_cons_succ]
  refine Sim.takeP (i := 15) (d := some 3) (v := ?_) rfl rfl (by kernel_rfl) (by kernel_rfl) (by kernel_rfl) (fun _ _ _ h => h) (by first | exact XStab.true | exact XStab.rd) ?_ ?_
  rotate_left
  · first | refine Or.inl ⟨by rfl, fun w => ?_⟩ | (refine Or.inr ⟨by rfl, ?_⟩; with_reducible rfl)
    first | done | (go_simp; all_goals with_reducible rfl)
  try simp only [Act.put, List.setIfInBounds_toArray, List.set_cons_zero, List.set_cons_succ]
  refine Sim.done (by kernel_rfl) (fun w1 hO hX => ?_) _
  (try simp only [World.size_alloc1, World.size_drew, Nat.reduceAdd] at hO); (try simp only [upd, updI, List.map_cons, List.map_nil, eq_self, if_true, if_false, reduceIte, Nat.add_eq_left, Nat.left_eq_add, Nat.reduceEqDiff, List.set_cons_zero, List.set_cons_succ] at hO)
  have hF := hO; (try simp only [Own, Item.Holds, apartI, CellsAt, Nat.reduceAdd, Nat.zero_add, List.mem_cons, List.not_mem_nil, or_false, forall_eq_or_imp, forall_eq, ne_eq, false_imp_iff, implies_true, and_true] at hF)
  rotate_left 1
  have hF := hO; (try simp only [Own, Item.Holds, apartI, CellsAt, Nat.reduceAdd, Nat.zero_add, List.mem_cons, List.not_mem_nil, or_false, forall_eq_or_imp, forall_eq, ne_eq, false_imp_iff, implies_true, and_true] at hF)
  go_simp
  apply hK _ _ _ (fun W => Rd W r (0 + 500 + 0))
  (repeat (first | (with_reducible exact hO) | (with_reducible apply Own.alloc) | (with_reducible apply Own.drew) | ((with_reducible apply Own.set_at); (focus (show _ ≤ _; omega)))))
  · first | exact trivial | exact hX.below (below1 _) | exact hX.keep ((Below.refl _ _).setCell (by dsimp only; omega) _)
  · exact (by first | exact XStab.true | exact XStab.rd)
  · first | exact fun _ _ h => h.2 | exact fun h => absurd h (by decide)
  try simp only [upd, updI, List.map_cons, List.map_nil, eq_self, if_true, if_false, reduceIte, Nat.add_eq_left, Nat.left_eq_add, Nat.reduceEqDiff, List.set_cons_zero, List.set_cons_succ, hF]
  clear hK K hF hO
  try simp only [Act.put, List.setIfInBounds_toArray, List.set_cons_zero, List.set_cons_succ]
  refine Sim.one' (i := 2) (oi := { dst := some 12, op := Op.call { callee := Callee.value (Operand.func 45), args := #[Operand.tmp 11, Operand.const (Value.int IntKind.i64 256)], argTypes := #[48, 3] }, type := 3, pos := "l20_draw.go:306", after := #[{ on := 1, ground := Ground.data }], guard := none }) (by kernel_rfl) rfl (by rfl) (fun w0 hO hX K hK => ?_)
  have hF := hO; (try simp only [Own, Item.Holds, apartI, CellsAt, Nat.reduceAdd, Nat.zero_add, List.mem_cons, List.not_mem_nil, or_false, forall_eq_or_imp, forall_eq, ne_eq, false_imp_iff, implies_true, and_true] at hF)
  go_simp
  refine (pick_any r (0 + 500 + 0) _ _ hX (by omega) (by decide) (by decide)).mono ?_
  rintro e wa ⟨pk0, lo0, hi0, rfl, hR4, hB4⟩
  have mb0 : IntKind.i64.wrap (pk0 * 12) = pk0 * 12 := IntWalk.i64_in _ (by omega)
  have sb0 := seven_bd pk0
  obtain ⟨y0, hy0⟩ : ∃ y, ([0, 0, 1, 1, 1, 2, 3] : List Int).getD pk0.toNat 0 = y := ⟨_, rfl⟩
  rw [hy0] at sb0
  obtain ⟨ya0, yb0⟩ := sb0
  apply hK _ _ _ (fun W => Rd W r (0 + 500 + 1))
  · exact Own.but hr2 (Stab.but hr2) (hO.base.trans hB4) hB4 hO
  · exact hR4.mono (by omega)
  · exact XStab.rd
  · exact fun _ _ h => h
  clear hR4 hB4
  clear hK K hF hO
  try simp only [Act.put, List.setIfInBounds_toArray, List.set_cons_zero, List.set_cons_succ]
  refine Sim.one' (i := 4) (oi := { dst := some 14, op := Op.call { callee := Callee.value (Operand.func 45), args := #[Operand.tmp 13, Operand.const (Value.int IntKind.i64 40)], argTypes := #[48, 3] }, type := 3, pos := "l20_draw.go:306", after := #[{ on := 3, ground := Ground.data }, { on := 2, ground := Ground.chain }], guard := none }) (by kernel_rfl) rfl (by rfl) (fun w0 hO hX K hK => ?_)
  have hF := hO; (try simp only [Own, Item.Holds, apartI, CellsAt, Nat.reduceAdd, Nat.zero_add, List.mem_cons, List.not_mem_nil, or_false, forall_eq_or_imp, forall_eq, ne_eq, false_imp_iff, implies_true, and_true] at hF)
  go_simp
  refine (pick_any r (0 + 500 + 1) _ _ hX (by omega) (by decide) (by decide)).mono ?_
  rintro e wa ⟨pk1, lo1, hi1, rfl, hR4, hB4⟩
  have mb1 : IntKind.i64.wrap (pk1 * 12) = pk1 * 12 := IntWalk.i64_in _ (by omega)
  have sb1 := seven_bd pk1
  obtain ⟨y1, hy1⟩ : ∃ y, ([0, 0, 1, 1, 1, 2, 3] : List Int).getD pk1.toNat 0 = y := ⟨_, rfl⟩
  rw [hy1] at sb1
  obtain ⟨ya1, yb1⟩ := sb1
  apply hK _ _ _ (fun W => Rd W r (0 + 500 + 2))
  · exact Own.but hr2 (Stab.but hr2) (hO.base.trans hB4) hB4 hO
  · exact hR4.mono (by omega)
  · exact XStab.rd
  · exact fun _ _ h => h
  clear hR4 hB4
  clear hK K hF hO
  try simp only [Act.put, List.setIfInBounds_toArray, List.set_cons_zero, List.set_cons_succ]
  refine Sim.takeP (i := 5) (d := some 15) (v := ?_) rfl rfl (by kernel_rfl) (by kernel_rfl) (by kernel_rfl) (fun _ _ _ h => h) (by first | exact XStab.true | exact XStab.rd) ?_ ?_
  rotate_left
  · first | refine Or.inl ⟨by rfl, fun w => ?_⟩ | (refine Or.inr ⟨by rfl, ?_⟩; with_reducible rfl)
    first | done | (go_simp; all_goals with_reducible rfl)
  try simp only [Act.put, List.setIfInBounds_toArray, List.set_cons_zero, List.set_cons_succ]
  refine Sim.many (rs := [6, 9]) (by kernel_rfl) (by decide) ?_
  refine AllS.cons (oi := { dst := some 16, op := Op.buildSlice 55 4 #[(0, Operand.tmp 12), (1, Operand.tmp 15), (2, Operand.const (Value.int IntKind.i64 (-1))), (3, Operand.const (Value.int IntKind.i64 9223372036854775807))], type := 55, pos := "l20_draw.go:306", after := #[{ on := 2, ground := Ground.data }, { on := 5, ground := Ground.data }, { on := 14, ground := Ground.gcOnly Departure.lateStores }], guard := none }) rfl (by rfl) (fun w0 hO hX K hK => ?_) ?_
  rotate_left
  refine AllS.cons (oi := { dst := some 19, op := Op.call { callee := Callee.value (Operand.func 45), args := #[Operand.tmp 18, Operand.const (Value.int IntKind.i64 7)], argTypes := #[48, 3] }, type := 3, pos := "l20_draw.go:306", after := #[{ on := 8, ground := Ground.data }, { on := 4, ground := Ground.chain }], guard := none }) rfl (by rfl) (fun w0 hO hX K hK => ?_) ?_
  rotate_left
  exact AllS.nil
  rotate_right 2
  have hF := hO; (try simp only [Own, Item.Holds, apartI, CellsAt, Nat.reduceAdd, Nat.zero_add, List.mem_cons, List.not_mem_nil, or_false, forall_eq_or_imp, forall_eq, ne_eq, false_imp_iff, implies_true, and_true] at hF)
  go_simp
  apply hK _ _ _ (fun W => Rd W r (0 + 500 + 2))
  (repeat (first | (with_reducible exact hO) | (with_reducible apply Own.alloc) | (with_reducible apply Own.drew) | ((with_reducible apply Own.set_at); (focus (show _ ≤ _; omega)))))
  · first | exact trivial | exact hX.below (below1 _) | exact hX.keep ((Below.refl _ _).setCell (by dsimp only; omega) _)
  · exact (by first | exact XStab.true | exact XStab.rd)
  · first | exact fun _ _ h => h.2 | exact fun h => absurd h (by decide)
  try simp only [upd, updI, List.map_cons, List.map_nil, eq_self, if_true, if_false, reduceIte, Nat.add_eq_left, Nat.left_eq_add, Nat.reduceEqDiff, List.set_cons_zero, List.set_cons_succ, hF]
  clear hK K hF hO
  try simp only [Act.put, List.setIfInBounds_toArray, List.set_cons_zero, List.set_cons_succ]
  refine Sim.one' (i := 9) (oi := { dst := some 19, op := Op.call { callee := Callee.value (Operand.func 45), args := #[Operand.tmp 18, Operand.const (Value.int IntKind.i64 7)], argTypes := #[48, 3] }, type := 3, pos := "l20_draw.go:306", after := #[{ on := 8, ground := Ground.data }, { on := 4, ground := Ground.chain }], guard := none }) (by kernel_rfl) rfl (by rfl) (fun w0 hO hX K hK => ?_)
  have hF := hO; (try simp only [Own, Item.Holds, apartI, CellsAt, Nat.reduceAdd, Nat.zero_add, List.mem_cons, List.not_mem_nil, or_false, forall_eq_or_imp, forall_eq, ne_eq, false_imp_iff, implies_true, and_true] at hF)
  go_simp
  refine (pick_any r (0 + 500 + 2) _ _ hX (by omega) (by decide) (by decide)).mono ?_
  rintro e wa ⟨pk2, lo2, hi2, rfl, hR4, hB4⟩
  have mb2 : IntKind.i64.wrap (pk2 * 12) = pk2 * 12 := IntWalk.i64_in _ (by omega)
  have sb2 := seven_bd pk2
  obtain ⟨y2, hy2⟩ : ∃ y, ([0, 0, 1, 1, 1, 2, 3] : List Int).getD pk2.toNat 0 = y := ⟨_, rfl⟩
  rw [hy2] at sb2
  obtain ⟨ya2, yb2⟩ := sb2
  apply hK _ _ _ (fun W => Rd W r (0 + 500 + 3))
  · exact Own.but hr2 (Stab.but hr2) (hO.base.trans hB4) hB4 hO
  · exact hR4.mono (by omega)
  · exact XStab.rd
  · exact fun _ _ h => h
  clear hR4 hB4
  clear hK K hF hO
  try simp only [Act.put, List.setIfInBounds_toArray, List.set_cons_zero, List.set_cons_succ]
  refine Sim.takeP (i := 10) (d := some 20) (v := ?_) rfl rfl (by kernel_rfl) (by kernel_rfl) (by kernel_rfl) (fun _ _ _ h => h) (by first | exact XStab.true | exact XStab.rd) ?_ ?_
  rotate_left
  · first | refine Or.inl ⟨by rfl, fun w => ?_⟩ | (refine Or.inr ⟨by rfl, ?_⟩; with_reducible rfl)
    first | done | (go_simp; all_goals with_reducible rfl)
  try simp only [Act.put, List.setIfInBounds_toArray, List.set_cons_zero, List.set_cons_succ]
  refine Sim.take (i := 11) (d := some 21) (v := ?_) rfl rfl (by kernel_rfl) (by kernel_rfl) (by kernel_rfl) (by kernel_rfl) (fun _ _ _ h => h) (by first | exact XStab.true | exact XStab.rd) ?_ ?_
  rotate_left
  · first | refine Or.inl ⟨by rfl, fun w hO => ?_⟩ | (refine Or.inr ⟨by rfl, ?_⟩; with_reducible rfl)
    first | done | (have hF := hO; (try simp only [Own, Item.Holds, apartI, CellsAt, Nat.reduceAdd, Nat.zero_add, List.mem_cons, List.not_mem_nil, or_false, forall_eq_or_imp, forall_eq, ne_eq, false_imp_iff, implies_true, and_true] at hF); ((try (have hc1 := hO.int_at (x := pk2) [0, 0, 1, 1, 1, 2, 3] (by first | exact List.mem_cons_self | exact List.mem_cons_of_mem _ List.mem_cons_self) lo2 (by simpa using hi2); rw [hy2] at hc1)); (try (have hc2 := hO.int_at (x := y2) [pk0, pk1 * 12, -1, 9223372036854775807] (by first | exact List.mem_cons_self | exact List.mem_cons_of_mem _ List.mem_cons_self) ya2 (by simpa using yb2); rw [show ([pk0, pk1 * 12, -1, 9223372036854775807] : List Int).getD y2.toNat 0 = four pk0 pk1 y2 from rfl] at hc2))); refine Out.same ?_; go_simp; all_goals with_reducible rfl)
  try simp only [Act.put, List.setIfInBounds_toArray, List.set_cons_zero, List.set_cons_succ]
  refine Sim.takeP (i := 12) (d := some 22) (v := ?_) rfl rfl (by kernel_rfl) (by kernel_rfl) (by kernel_rfl) (fun _ _ _ h => h) (by first | exact XStab.true | exact XStab.rd) ?_ ?_
  rotate_left
  · first | refine Or.inl ⟨by rfl, fun w => ?_⟩ | (refine Or.inr ⟨by rfl, ?_⟩; with_reducible rfl)
    first | done | (go_simp; all_goals with_reducible rfl)
  try simp only [Act.put, List.setIfInBounds_toArray, List.set_cons_zero, List.set_cons_succ]
  refine Sim.take (i := 13) (d := some 23) (v := ?_) rfl rfl (by kernel_rfl) (by kernel_rfl) (by kernel_rfl) (by kernel_rfl) (fun _ _ _ h => h) (by first | exact XStab.true | exact XStab.rd) ?_ ?_
  rotate_left
  · first | refine Or.inl ⟨by rfl, fun w hO => ?_⟩ | (refine Or.inr ⟨by rfl, ?_⟩; with_reducible rfl)
    first | done | (have hF := hO; (try simp only [Own, Item.Holds, apartI, CellsAt, Nat.reduceAdd, Nat.zero_add, List.mem_cons, List.not_mem_nil, or_false, forall_eq_or_imp, forall_eq, ne_eq, false_imp_iff, implies_true, and_true] at hF); ((try (have hc1 := hO.int_at (x := pk2) [0, 0, 1, 1, 1, 2, 3] (by first | exact List.mem_cons_self | exact List.mem_cons_of_mem _ List.mem_cons_self) lo2 (by simpa using hi2); rw [hy2] at hc1)); (try (have hc2 := hO.int_at (x := y2) [pk0, pk1 * 12, -1, 9223372036854775807] (by first | exact List.mem_cons_self | exact List.mem_cons_of_mem _ List.mem_cons_self) ya2 (by simpa using yb2); rw [show ([pk0, pk1 * 12, -1, 9223372036854775807] : List Int).getD y2.toNat 0 = four pk0 pk1 y2 from rfl] at hc2))); refine Out.same ?_; go_simp; all_goals with_reducible rfl)
  try simp only [Act.put, List.setIfInBounds_toArray, List.set_cons_zero, List.set_cons_succ]
  refine Sim.takeP (i := 14) (d := some 2) (v := ?_) rfl rfl (by kernel_rfl) (by kernel_rfl) (by kernel_rfl) (fun _ _ _ h => h) (by first | exact XStab.true | exact XStab.rd) ?_ ?_
  rotate_left
  · first | refine Or.inl ⟨by rfl, fun w => ?_⟩ | (refine Or.inr ⟨by rfl, ?_⟩; with_reducible rfl)
    first | done | (go_simp; all_goals with_reducible rfl)
  try simp only [Act.put, List.setIfInBounds_toArray, List.set_cons_zero, List.set_cons_succ]
  refine Sim.takeP (i := 15) (d := some 3) (v := ?_) rfl rfl (by kernel_rfl) (by kernel_rfl) (by kernel_rfl) (fun _ _ _ h => h) (by first | exact XStab.true | exact XStab.rd) ?_ ?_
  rotate_left
  · first | refine Or.inl ⟨by rfl, fun w => ?_⟩ | (refine Or.inr ⟨by rfl, ?_⟩; with_reducible rfl)
    first | done | (go_simp; all_goals with_reducible rfl)
  try simp only [Act.put, List.setIfInBounds_toArray, List.set_cons_zero, List.set_cons_succ]
  refine Sim.done (by kernel_rfl) (fun w1 hO hX => ?_) _
  (try simp only [World.size_alloc1, World.size_drew, Nat.reduceAdd] at hO); (try simp only [upd, updI, List.map_cons, List.map_nil, eq_self, if_true, if_false, reduceIte, Nat.add_eq_left, Nat.left_eq_add, Nat.reduceEqDiff, List.set_cons_zero, List.set_cons_succ] at hO)
  have hF := hO; (try simp only [Own, Item.Holds, apartI, CellsAt, Nat.reduceAdd, Nat.zero_add, List.mem_cons, List.not_mem_nil, or_false, forall_eq_or_imp, forall_eq, ne_eq, false_imp_iff, implies_true, and_true] at hF)
  rotate_left 1
  have hF := hO; (try simp only [Own, Item.Holds, apartI, CellsAt, Nat.reduceAdd, Nat.zero_add, List.mem_cons, List.not_mem_nil, or_false, forall_eq_or_imp, forall_eq, ne_eq, false_imp_iff, implies_true, and_true] at hF)
  go_simp
  refine (pick_any r (0 + 500 + 2) _ _ hX (by omega) (by decide) (by decide)).mono ?_
  rintro e wa ⟨pk2, lo2, hi2, rfl, hR4, hB4⟩
  have mb2 : IntKind.i64.wrap (pk2 * 12) = pk2 * 12 := IntWalk.i64_in _ (by omega)
  have sb2 := seven_bd pk2
  obtain ⟨y2, hy2⟩ : ∃ y, ([0, 0, 1, 1, 1, 2, 3] : List Int).getD pk2.toNat 0 = y := ⟨_, rfl⟩
  rw [hy2] at sb2
  obtain ⟨ya2, yb2⟩ := sb2
  apply hK _ _ _ (fun W => Rd W r (0 + 500 + 3))
  · exact Own.but hr2 (Stab.but hr2) (hO.base.trans hB4) hB4 hO
  · exact hR4.mono (by omega)
  · exact XStab.rd
  · exact fun _ _ h => h
  clear hR4 hB4
  clear hK K hF hO
  try simp only [Act.put, List.setIfInBounds_toArray, List.set_cons_zero, List.set_cons_succ]
  refine Sim.takeP (i := 10) (d := some 20) (v := ?_) rfl rfl (by kernel_rfl) (by kernel_rfl) (by kernel_rfl) (fun _ _ _ h => h) (by first | exact XStab.true | exact XStab.rd) ?_ ?_
  rotate_left
  · first | refine Or.inl ⟨by rfl, fun w => ?_⟩ | (refine Or.inr ⟨by rfl, ?_⟩; with_reducible rfl)
    first | done | (go_simp; all_goals with_reducible rfl)
  try simp only [Act.put, List.setIfInBounds_toArray, List.set_cons_zero, List.set_cons_succ]
  refine Sim.take (i := 11) (d := some 21) (v := ?_) rfl rfl (by kernel_rfl) (by kernel_rfl) (by kernel_rfl) (by kernel_rfl) (fun _ _ _ h => h) (by first | exact XStab.true | exact XStab.rd) ?_ ?_
  rotate_left
  · first | refine Or.inl ⟨by rfl, fun w hO => ?_⟩ | (refine Or.inr ⟨by rfl, ?_⟩; with_reducible rfl)
    first | done | (have hF := hO; (try simp only [Own, Item.Holds, apartI, CellsAt, Nat.reduceAdd, Nat.zero_add, List.mem_cons, List.not_mem_nil, or_false, forall_eq_or_imp, forall_eq, ne_eq, false_imp_iff, implies_true, and_true] at hF); ((try (have hc1 := hO.int_at (x := pk2) [0, 0, 1, 1, 1, 2, 3] (by first | exact List.mem_cons_self | exact List.mem_cons_of_mem _ List.mem_cons_self) lo2 (by simpa using hi2); rw [hy2] at hc1)); (try (have hc2 := hO.int_at (x := y2) [pk0, pk1 * 12, -1, 9223372036854775807] (by first | exact List.mem_cons_self | exact List.mem_cons_of_mem _ List.mem_cons_self) ya2 (by simpa using yb2); rw [show ([pk0, pk1 * 12, -1, 9223372036854775807] : List Int).getD y2.toNat 0 = four pk0 pk1 y2 from rfl] at hc2))); refine Out.same ?_; go_simp; all_goals with_reducible rfl)
  try simp only [Act.put, List.setIfInBounds_toArray, List.set_cons_zero, List.set_cons_succ]
  refine Sim.takeP (i := 14) (d := some 2) (v := ?_) rfl rfl (by kernel_rfl) (by kernel_rfl) (by kernel_rfl) (fun _ _ _ h => h) (by first | exact XStab.true | exact XStab.rd) ?_ ?_
  rotate_left
  · first | refine Or.inl ⟨by rfl, fun w => ?_⟩ | (refine Or.inr ⟨by rfl, ?_⟩; with_reducible rfl)
    first | done | (go_simp; all_goals with_reducible rfl)
  try simp only [Act.put, List.setIfInBounds_toArray, List.set_cons_zero, List.set_cons_succ]
  refine Sim.one' (i := 6) (oi := { dst := some 16, op := Op.buildSlice 55 4 #[(0, Operand.tmp 12), (1, Operand.tmp 15), (2, Operand.const (Value.int IntKind.i64 (-1))), (3, Operand.const (Value.int IntKind.i64 9223372036854775807))], type := 55, pos := "l20_draw.go:306", after := #[{ on := 2, ground := Ground.data }, { on := 5, ground := Ground.data }, { on := 14, ground := Ground.gcOnly Departure.lateStores }], guard := none }) (by kernel_rfl) rfl (by rfl) (fun w0 hO hX K hK => ?_)
  have hF := hO; (try simp only [Own, Item.Holds, apartI, CellsAt, Nat.reduceAdd, Nat.zero_add, List.mem_cons, List.not_mem_nil, or_false, forall_eq_or_imp, forall_eq, ne_eq, false_imp_iff, implies_true, and_true] at hF)
  go_simp
  apply hK _ _ _ (fun W => Rd W r (0 + 500 + 3))
  (repeat (first | (with_reducible exact hO) | (with_reducible apply Own.alloc) | (with_reducible apply Own.drew) | ((with_reducible apply Own.set_at); (focus (show _ ≤ _; omega)))))
  · first | exact trivial | exact hX.below (below1 _) | exact hX.keep ((Below.refl _ _).setCell (by dsimp only; omega) _)
  · exact (by first | exact XStab.true | exact XStab.rd)
  · first | exact fun _ _ h => h.2 | exact fun h => absurd h (by decide)
  try simp only [upd, updI, List.map_cons, List.map_nil, eq_self, if_true, if_false, reduceIte, Nat.add_eq_left, Nat.left_eq_add, Nat.reduceEqDiff, List.set_cons_zero, List.set_cons_succ, hF]
  clear hK K hF hO
  try simp only [Act.put, List.setIfInBounds_toArray, List.set_cons_zero, List.set_cons_succ]
  refine Sim.takeP (i := 12) (d := some 22) (v := ?_) rfl rfl (by kernel_rfl) (by kernel_rfl) (by kernel_rfl) (fun _ _ _ h => h) (by first | exact XStab.true | exact XStab.rd) ?_ ?_
  rotate_left
  · first | refine Or.inl ⟨by rfl, fun w => ?_⟩ | (refine Or.inr ⟨by rfl, ?_⟩; with_reducible rfl)
    first | done | (go_simp; all_goals with_reducible rfl)
  try simp only [Act.put, List.setIfInBounds_toArray, List.set_cons_zero, List.set_cons_succ]
  refine Sim.take (i := 13) (d := some 23) (v := ?_) rfl rfl (by kernel_rfl) (by kernel_rfl) (by kernel_rfl) (by kernel_rfl) (fun _ _ _ h => h) (by first | exact XStab.true | exact XStab.rd) ?_ ?_
  rotate_left
  · first | refine Or.inl ⟨by rfl, fun w hO => ?_⟩ | (refine Or.inr ⟨by rfl, ?_⟩; with_reducible rfl)
    first | done | (have hF := hO; (try simp only [Own, Item.Holds, apartI, CellsAt, Nat.reduceAdd, Nat.zero_add, List.mem_cons, List.not_mem_nil, or_false, forall_eq_or_imp, forall_eq, ne_eq, false_imp_iff, implies_true, and_true] at hF); ((try (have hc1 := hO.int_at (x := pk2) [0, 0, 1, 1, 1, 2, 3] (by first | exact List.mem_cons_self | exact List.mem_cons_of_mem _ List.mem_cons_self) lo2 (by simpa using hi2); rw [hy2] at hc1)); (try (have hc2 := hO.int_at (x := y2) [pk0, pk1 * 12, -1, 9223372036854775807] (by first | exact List.mem_cons_self | exact List.mem_cons_of_mem _ List.mem_cons_self) ya2 (by simpa using yb2); rw [show ([pk0, pk1 * 12, -1, 9223372036854775807] : List Int).getD y2.toNat 0 = four pk0 pk1 y2 from rfl] at hc2))); refine Out.same ?_; go_simp; all_goals with_reducible rfl)
  try simp only [Act.put, List.setIfInBounds_toArray, List.set_cons_zero, List.set_cons_succ]
  refine Sim.takeP (i := 15) (d := some 3) (v := ?_) rfl rfl (by kernel_rfl) (by kernel_rfl) (by kernel_rfl) (fun _ _ _ h => h) (by first | exact XStab.true | exact XStab.rd) ?_ ?_
  rotate_left
  · first | refine Or.inl ⟨by rfl, fun w => ?_⟩ | (refine Or.inr ⟨by rfl, ?_⟩; with_reducible rfl)
    first | done | (go_simp; all_goals with_reducible rfl)
  try simp only [Act.put, List.setIfInBounds_toArray, List.set_cons_zero, List.set_cons_succ]
  refine Sim.done (by kernel_rfl) (fun w1 hO hX => ?_) _
  (try simp only [World.size_alloc1, World.size_drew, Nat.reduceAdd] at hO); (try simp only [upd, updI, List.map_cons, List.map_nil, eq_self, if_true, if_false, reduceIte, Nat.add_eq_left, Nat.left_eq_add, Nat.reduceEqDiff, List.set_cons_zero, List.set_cons_succ] at hO)
  have hF := hO; (try simp only [Own, Item.Holds, apartI, CellsAt, Nat.reduceAdd, Nat.zero_add, List.mem_cons, List.not_mem_nil, or_false, forall_eq_or_imp, forall_eq, ne_eq, false_imp_iff, implies_true, and_true] at hF)
  rotate_left 1
  all_goals
    have HO := hid (HW.out.drawn hO.base hr HNE.out)
    have hB := four_bd (y := y2) lo0 hi0 lo1 hi1
    clear hO hF hX
    generalize four pk0 pk1 y2 = z at hB ⊢
    have HB := hid hB
    clear hB
    go_wp2
    go_ret2
    exact ⟨u, vs, z, HV.out, hl, HB.out, rfl, HO.out⟩
end Go.Proofs.YtepelgaekgllcaaDoor
