/- Draws of chapter 16: DrawMeetTicks. -/
import Derived.Test.YtmkhpafcgobfhaaDoorDrawsVo
import Derived.Test.YtmkhpafcgobfhaaDoorRdIf
import Derived.Test.YtmkhpafcgobfhaaDoorRegionD
namespace Go.Proofs.YtmkhpafcgobfhaaDoor
set_option linter.unusedSimpArgs false
set_option linter.unusedVariables false
set_option maxRecDepth 8000
open Go.RowKit

/-- Two voices are drawn. -/
def DrewVv (w : World) (e : Ending) (w' : World) : Prop :=
  ∃ (u : Value) (a : List Nt) (u' : Value) (b : List Nt), (∀ x ∈ a, ntOk x) ∧ a.length ≤ 61 ∧ (∀ x ∈ b, ntOk x) ∧ b.length ≤ 61 ∧ e = .returned (.tuple #[u, u']) ∧ Own w.heap.size (Below w.heap.size w) w' [.row 53 6 u' b.length (vcC b), .row 53 6 u a.length (vcC a)]

/-- A block of numbers. -/
def numHead16 : Item → Prop
  | .blk _ (.int _ _ :: _) => True
  | _ => False
/-- The reader's block is no block of numbers. -/
theorem ne_rd16 {n r : Nat} {B : World → Prop} {w : World} {L : List Item} {P : Int} (h : Own n B w L) (hr : Rd w r P) {x0 : Item} (h0 : x0.at? ≠ some r) (hi : ∀ x ∈ L, numHead16 x ∨ x = x0) : ∀ x ∈ L, x.at? ≠ some r := fun x hx e => by
  rcases hi x hx with h1 | rfl
  · have h2 := h.holds x hx
    obtain ⟨v, m, p, _, _, _, _, hc, _, _, hb⟩ := hr
    obtain ⟨a, m', c, rfl⟩ : ∃ a m' c, v = .slice a m' c := by
      rcases hb with ⟨_, a, c, h⟩ | ⟨_, b', off, cap, _, _, h, _⟩
      · exact ⟨a, 0, c, h⟩
      · exact ⟨_, m, cap, h⟩
    match x, h1, h2, e with
    | .blk b (.int k y :: vs), _, h2, e =>
      simp only [Item.at?, Option.some.injEq] at e
      subst e
      have := h2.1.get (j := 0) (v := .int k y) rfl
      rw [Nat.zero_add, hc] at this
      cases this
  · exact h0 e
theorem seven16 (x : Int) : 0 ≤ ([0, 0, 0, 0, 0, 1, 2] : List Int).getD x.toNat 0 ∧ ([0, 0, 0, 0, 0, 1, 2] : List Int).getD x.toNat 0 < 3 := by
  obtain h | h | h | h | h | h | h | h : x.toNat = 0 ∨ x.toNat = 1 ∨ x.toNat = 2 ∨ x.toNat = 3 ∨ x.toNat = 4 ∨ x.toNat = 5 ∨ x.toNat = 6 ∨ 7 ≤ x.toNat := by omega
  all_goals first | (rw [h]; decide) | (rw [List.getD_eq_getElem?_getD, List.getElem?_eq_none (by simpa using h)]; decide)
def three16 (a y : Int) : Int := ([12 * (1 + a), 0, 769] : List Int).getD y.toNat 0
theorem three16_bd {a y : Int} (a0 : 0 ≤ a) (a1 : a < 16) : 0 ≤ three16 a y ∧ three16 a y ≤ 769 := by
  unfold three16
  obtain h | h | h | h : y.toNat = 0 ∨ y.toNat = 1 ∨ y.toNat = 2 ∨ 3 ≤ y.toNat := by omega
  · rw [h]; simp; omega
  · rw [h]; simp
  · rw [h]; simp
  · rw [List.getD_eq_getElem?_getD, List.getElem?_eq_none (by simpa using h)]; simp
/-- A voice, a delay and an interval are drawn. -/
def DrewVd (w : World) (e : Ending) (w' : World) : Prop :=
  ∃ (u : Value) (v : List Nt) (d st ha : Int), (∀ x ∈ v, ntOk x) ∧ v.length ≤ 61 ∧ (0 ≤ d ∧ d ≤ 769) ∧ (-100 ≤ st ∧ st ≤ 100) ∧ (-9223372036854775807 ≤ ha ∧ ha ≤ 9223372036854775807) ∧ e = .returned (.tuple #[u, .int .i64 d, .agg #[.int .i64 st, .int .i64 ha]]) ∧ Own w.heap.size (Below w.heap.size w) w' [.row 53 6 u v.length (vcC v)]

set_option maxRecDepth 20000 in
set_option maxHeartbeats 8000000 in
theorem DrawCanonOf_any (v : Value) (n : Nat) (w : World) (hn : n ≤ maxLen) (h : BytesB w w.heap.size v n) :
    Calls Tryd.prog 28 #[v] w (DrewVd w) := by
  have hO := Own.start w
  have hF := True.intro
  go_enter Tryd.func28, Tryd.ntmps28
  go_wp2_with fail
  apply own_at hO
  (repeat (first | (with_reducible exact hO) | (with_reducible apply Own.alloc) | (with_reducible apply Own.drew) | ((with_reducible apply Own.set_at); (focus (show _ ≤ _; omega)))))
  intro hO1
  refine (open_any v n _ hn (h.alloc _)).mono ?_
  rintro e w1 ⟨r, hr, rfl, hR, hb⟩
  have hne := hO1.ne_of hr
  have hr0 := Nat.le_trans hO1.low hr
  replace hO := hO1.below hb
  have hrl := hR.lt
  clear hO1 hb h hn
  go_wp2_with fail
  refine (l20Voice_any r 0 _ _ hR (by omega) (by omega) (by omega)).mono ?_
  rintro e w2 ⟨u, vs, hv, hl, rfl, ho, hR2, hB2⟩
  have hO2 := (hO.drawn hB2 hr0 hne).joinRow ho (Nat.le_trans hr0 (Nat.le_of_lt hrl)) (fun x hx g hg => by have := (hO.lt x hx g hg).2; exact this)
  have HU0 := hid (show (Item.row 53 6 u vs.length (vcC vs)).at? ≠ some r from fun e => by
    have := (World.ownsRow.lt ho r e).1; omega)
  have HV := hid (And.intro hv hl)
  clear hR hB2 hO hne ho hv hl
  have hO := hO2
  have hX : Rd w2 r (500 + 100 * 0) := hR2.mono (by omega)
  clear hO2 hR2
  have hG := hF
  (try simp only [World.size_alloc1, World.size_drew, Nat.reduceAdd] at hO); (try simp only [upd, updI, List.map_cons, List.map_nil, eq_self, if_true, if_false, reduceIte, Nat.add_eq_left, Nat.left_eq_add, Nat.reduceEqDiff, List.set_cons_zero, List.set_cons_succ, hG] at hO); clear hG
  clear hF
  have hF := True.intro
  go_wp2_with fail
  apply own_code hO
  (repeat (first | (with_reducible exact hO) | (with_reducible apply Own.alloc) | (with_reducible apply Own.drew) | ((with_reducible apply Own.set_at); (focus (show _ ≤ _; omega)))))
  have hG := hF; clear hF; clear hO; intro hO
  (try simp only [World.size_alloc1, World.size_drew, Nat.reduceAdd] at hO); (try simp only [upd, updI, List.map_cons, List.map_nil, eq_self, if_true, if_false, reduceIte, Nat.add_eq_left, Nat.left_eq_add, Nat.reduceEqDiff, List.set_cons_zero, List.set_cons_succ, hG] at hO); clear hG
  refine region_own (X := fun W => RdIf (Nat.blt 0 3) W r (500 + 100 * 0)) [17] (by kernel_rfl) (hO) ((fun _ => hX)) (by first | exact XStab.true | exact XStab.rd | exact XStab.rdIf) ?_
  clear hO
  refine Sim.sP (i := 0) (d := some 11) (h := ?_)
  refine Sim.sP (i := 1) (d := some 12) (h := ?_)
  refine Sim.sP (i := 7) (d := some 18) (h := ?_)
  refine Sim.sP (i := 13) (d := some 24) (h := ?_)
  refine Sim.many (rs := [2, 6]) (by kernel_rfl) (by decide) ?_
  refine AllS.cons (oi := { dst := some 13, op := Op.call { callee := Callee.value (Operand.func 54), args := #[Operand.tmp 12, Operand.const (Value.int IntKind.i64 16)], argTypes := #[69, 3] }, type := 3, pos := "l20_draw.go:839", after := #[{ on := 1, ground := Ground.data }], guard := none }) rfl (by rfl) (fun w0 hO hX K hK => ?_) ?_
  rotate_left
  refine AllS.cons (oi := { dst := some 17, op := Op.buildSlice 55 7 #[(0, Operand.const (Value.int IntKind.i64 0)), (1, Operand.const (Value.int IntKind.i64 0)), (2, Operand.const (Value.int IntKind.i64 0)), (3, Operand.const (Value.int IntKind.i64 0)), (4, Operand.const (Value.int IntKind.i64 0)), (5, Operand.const (Value.int IntKind.i64 1)), (6, Operand.const (Value.int IntKind.i64 2))], type := 55, pos := "l20_draw.go:839", after := #[{ on := 15, ground := Ground.gcOnly Departure.lateStores }], guard := none }) rfl (by rfl) (fun w0 hO hX K hK => ?_) ?_
  rotate_left
  exact AllS.nil
  rotate_right 2
  have hF := hO; (try simp only [Own, Item.Holds, apartI, CellsAt, Nat.reduceAdd, Nat.zero_add, List.mem_cons, List.not_mem_nil, or_false, forall_eq_or_imp, forall_eq, ne_eq, false_imp_iff, implies_true, and_true] at hF)
  go_simp
  refine (pick_any r (500 + 100 * 0) _ _ (hX rfl) (by omega) (by decide) (by decide)).mono ?_
  rintro e wa ⟨pk0, lo0, hi0, rfl, hR4, hB4⟩
  have sb0 := seven16 pk0
  have wa0 : IntKind.i64.wrap (1 + pk0) = 1 + pk0 := IntWalk.i64_in _ (by omega)
  have wb0 : IntKind.i64.wrap (12 * (1 + pk0)) = 12 * (1 + pk0) := IntWalk.i64_in _ (by omega)
  obtain ⟨y0, hy0⟩ : ∃ y, ([0, 0, 0, 0, 0, 1, 2] : List Int).getD pk0.toNat 0 = y := ⟨_, rfl⟩
  rw [hy0] at sb0
  obtain ⟨ya0, yb0⟩ := sb0
  apply hK _ _ _ (fun W => RdIf (Nat.blt 1 3) W r (500 + 100 * 1))
  · exact Own.drawn hB4 hr0 (ne_rd16 hO (hX rfl) HU0.out (by simp [numHead16])) hO
  · exact fun _ => hR4.mono (by omega)
  · exact XStab.rdIf
  · exact fun _ _ h => h
  clear hR4 hB4
  clear hK K hF hO
  try simp only [Act.put, List.setIfInBounds_toArray, List.set_cons_zero, List.set_cons_succ]
  refine Sim.sP (i := 3) (d := some 14) (h := ?_)
  refine Sim.sP (i := 4) (d := some 15) (h := ?_)
  refine Sim.many (rs := [5, 6, 8]) (by kernel_rfl) (by decide) ?_
  refine AllS.cons (oi := { dst := some 16, op := Op.buildSlice 55 3 #[(0, Operand.tmp 15), (1, Operand.const (Value.int IntKind.i64 0)), (2, Operand.const (Value.int IntKind.i64 769))], type := 55, pos := "l20_draw.go:839", after := #[{ on := 4, ground := Ground.data }, { on := 15, ground := Ground.gcOnly Departure.lateStores }], guard := none }) rfl (by rfl) (fun w0 hO hX K hK => ?_) ?_
  rotate_left
  refine AllS.cons (oi := { dst := some 17, op := Op.buildSlice 55 7 #[(0, Operand.const (Value.int IntKind.i64 0)), (1, Operand.const (Value.int IntKind.i64 0)), (2, Operand.const (Value.int IntKind.i64 0)), (3, Operand.const (Value.int IntKind.i64 0)), (4, Operand.const (Value.int IntKind.i64 0)), (5, Operand.const (Value.int IntKind.i64 1)), (6, Operand.const (Value.int IntKind.i64 2))], type := 55, pos := "l20_draw.go:839", after := #[{ on := 15, ground := Ground.gcOnly Departure.lateStores }], guard := none }) rfl (by rfl) (fun w0 hO hX K hK => ?_) ?_
  rotate_left
  refine AllS.cons (oi := { dst := some 19, op := Op.call { callee := Callee.value (Operand.func 54), args := #[Operand.tmp 18, Operand.const (Value.int IntKind.i64 7)], argTypes := #[69, 3] }, type := 3, pos := "l20_draw.go:839", after := #[{ on := 7, ground := Ground.data }, { on := 2, ground := Ground.chain }], guard := none }) rfl (by rfl) (fun w0 hO hX K hK => ?_) ?_
  rotate_left
  exact AllS.nil
  rotate_right 3
  have hF := hO; (try simp only [Own, Item.Holds, apartI, CellsAt, Nat.reduceAdd, Nat.zero_add, List.mem_cons, List.not_mem_nil, or_false, forall_eq_or_imp, forall_eq, ne_eq, false_imp_iff, implies_true, and_true] at hF)
  go_simp
  apply hK _ _ _ (fun W => RdIf (Nat.blt 1 3) W r (500 + 100 * 1))
  (repeat (first | (with_reducible exact hO) | (with_reducible apply Own.alloc) | (with_reducible apply Own.drew) | ((with_reducible apply Own.set_at); (focus (show _ ≤ _; omega)))))
  · first | exact trivial | exact hX | exact hX.below (below1 _) | exact RdIf.gone | exact hX.keep ((Below.refl _ _).setCell (by first | omega | (dsimp only; omega)) _)
  · exact (by first | exact XStab.true | exact XStab.rd | exact XStab.rdIf)
  · first | exact fun _ _ h => h.2 | exact fun _ _ h => h | exact fun h => absurd h (by decide)
  try simp only [upd, updI, List.map_cons, List.map_nil, eq_self, if_true, if_false, reduceIte, Nat.add_eq_left, Nat.left_eq_add, Nat.reduceEqDiff, List.set_cons_zero, List.set_cons_succ, hF]
  clear hK K hF hO
  try simp only [Act.put, List.setIfInBounds_toArray, List.set_cons_zero, List.set_cons_succ]
  refine Sim.many (rs := [6, 8]) (by kernel_rfl) (by decide) ?_
  refine AllS.cons (oi := { dst := some 17, op := Op.buildSlice 55 7 #[(0, Operand.const (Value.int IntKind.i64 0)), (1, Operand.const (Value.int IntKind.i64 0)), (2, Operand.const (Value.int IntKind.i64 0)), (3, Operand.const (Value.int IntKind.i64 0)), (4, Operand.const (Value.int IntKind.i64 0)), (5, Operand.const (Value.int IntKind.i64 1)), (6, Operand.const (Value.int IntKind.i64 2))], type := 55, pos := "l20_draw.go:839", after := #[{ on := 15, ground := Ground.gcOnly Departure.lateStores }], guard := none }) rfl (by rfl) (fun w0 hO hX K hK => ?_) ?_
  rotate_left
  refine AllS.cons (oi := { dst := some 19, op := Op.call { callee := Callee.value (Operand.func 54), args := #[Operand.tmp 18, Operand.const (Value.int IntKind.i64 7)], argTypes := #[69, 3] }, type := 3, pos := "l20_draw.go:839", after := #[{ on := 7, ground := Ground.data }, { on := 2, ground := Ground.chain }], guard := none }) rfl (by rfl) (fun w0 hO hX K hK => ?_) ?_
  rotate_left
  exact AllS.nil
  rotate_right 2
  have hF := hO; (try simp only [Own, Item.Holds, apartI, CellsAt, Nat.reduceAdd, Nat.zero_add, List.mem_cons, List.not_mem_nil, or_false, forall_eq_or_imp, forall_eq, ne_eq, false_imp_iff, implies_true, and_true] at hF)
  go_simp
  apply hK _ _ _ (fun W => RdIf (Nat.blt 1 3) W r (500 + 100 * 1))
  (repeat (first | (with_reducible exact hO) | (with_reducible apply Own.alloc) | (with_reducible apply Own.drew) | ((with_reducible apply Own.set_at); (focus (show _ ≤ _; omega)))))
  · first | exact trivial | exact hX | exact hX.below (below1 _) | exact RdIf.gone | exact hX.keep ((Below.refl _ _).setCell (by first | omega | (dsimp only; omega)) _)
  · exact (by first | exact XStab.true | exact XStab.rd | exact XStab.rdIf)
  · first | exact fun _ _ h => h.2 | exact fun _ _ h => h | exact fun h => absurd h (by decide)
  try simp only [upd, updI, List.map_cons, List.map_nil, eq_self, if_true, if_false, reduceIte, Nat.add_eq_left, Nat.left_eq_add, Nat.reduceEqDiff, List.set_cons_zero, List.set_cons_succ, hF]
  clear hK K hF hO
  try simp only [Act.put, List.setIfInBounds_toArray, List.set_cons_zero, List.set_cons_succ]
  refine Sim.one' (i := 8) (oi := { dst := some 19, op := Op.call { callee := Callee.value (Operand.func 54), args := #[Operand.tmp 18, Operand.const (Value.int IntKind.i64 7)], argTypes := #[69, 3] }, type := 3, pos := "l20_draw.go:839", after := #[{ on := 7, ground := Ground.data }, { on := 2, ground := Ground.chain }], guard := none }) (by kernel_rfl) rfl (by rfl) (fun w0 hO hX K hK => ?_)
  have hF := hO; (try simp only [Own, Item.Holds, apartI, CellsAt, Nat.reduceAdd, Nat.zero_add, List.mem_cons, List.not_mem_nil, or_false, forall_eq_or_imp, forall_eq, ne_eq, false_imp_iff, implies_true, and_true] at hF)
  go_simp
  refine (pick_any r (500 + 100 * 1) _ _ (hX rfl) (by omega) (by decide) (by decide)).mono ?_
  rintro e wa ⟨pk1, lo1, hi1, rfl, hR4, hB4⟩
  have sb1 := seven16 pk1
  have wa1 : IntKind.i64.wrap (1 + pk1) = 1 + pk1 := IntWalk.i64_in _ (by omega)
  have wb1 : IntKind.i64.wrap (12 * (1 + pk1)) = 12 * (1 + pk1) := IntWalk.i64_in _ (by omega)
  obtain ⟨y1, hy1⟩ : ∃ y, ([0, 0, 0, 0, 0, 1, 2] : List Int).getD pk1.toNat 0 = y := ⟨_, rfl⟩
  rw [hy1] at sb1
  obtain ⟨ya1, yb1⟩ := sb1
  apply hK _ _ _ (fun W => RdIf (Nat.blt 2 3) W r (500 + 100 * 2))
  · exact Own.drawn hB4 hr0 (ne_rd16 hO (hX rfl) HU0.out (by simp [numHead16])) hO
  · exact fun _ => hR4.mono (by omega)
  · exact XStab.rdIf
  · exact fun _ _ h => h
  clear hR4 hB4
  clear hK K hF hO
  try simp only [Act.put, List.setIfInBounds_toArray, List.set_cons_zero, List.set_cons_succ]
  refine Sim.sP (i := 9) (d := some 20) (h := ?_)
  refine Sim.sO (i := 10) (d := some 21) (v := ?_) (hy := ?_) (h := ?_)
  rotate_left
  · first | refine Or.inl ⟨by rfl, fun w hO => ?_⟩ | (refine Or.inr ⟨by rfl, ?_⟩; with_reducible rfl)
    first | done | (have hF := hO; (try simp only [Own, Item.Holds, apartI, CellsAt, Nat.reduceAdd, Nat.zero_add, List.mem_cons, List.not_mem_nil, or_false, forall_eq_or_imp, forall_eq, ne_eq, false_imp_iff, implies_true, and_true] at hF); ((try (have hc1 := hO.int_at (x := pk1) [0, 0, 0, 0, 0, 1, 2] (by first | exact List.mem_cons_self | exact List.mem_cons_of_mem _ List.mem_cons_self) lo1 (by simpa using hi1); rw [hy1] at hc1)); (try (have hc2 := hO.int_at (x := y1) [12 * (1 + pk0), 0, 769] (by first | exact List.mem_cons_self | exact List.mem_cons_of_mem _ List.mem_cons_self) ya1 (by simpa using yb1); rw [show ([12 * (1 + pk0), 0, 769] : List Int).getD y1.toNat 0 = three16 pk0 y1 from rfl] at hc2))); refine Out.same ?_; go_simp; all_goals with_reducible rfl)
  refine Sim.sP (i := 11) (d := some 22) (h := ?_)
  refine Sim.sO (i := 12) (d := some 23) (v := ?_) (hy := ?_) (h := ?_)
  rotate_left
  · first | refine Or.inl ⟨by rfl, fun w hO => ?_⟩ | (refine Or.inr ⟨by rfl, ?_⟩; with_reducible rfl)
    first | done | (have hF := hO; (try simp only [Own, Item.Holds, apartI, CellsAt, Nat.reduceAdd, Nat.zero_add, List.mem_cons, List.not_mem_nil, or_false, forall_eq_or_imp, forall_eq, ne_eq, false_imp_iff, implies_true, and_true] at hF); ((try (have hc1 := hO.int_at (x := pk1) [0, 0, 0, 0, 0, 1, 2] (by first | exact List.mem_cons_self | exact List.mem_cons_of_mem _ List.mem_cons_self) lo1 (by simpa using hi1); rw [hy1] at hc1)); (try (have hc2 := hO.int_at (x := y1) [12 * (1 + pk0), 0, 769] (by first | exact List.mem_cons_self | exact List.mem_cons_of_mem _ List.mem_cons_self) ya1 (by simpa using yb1); rw [show ([12 * (1 + pk0), 0, 769] : List Int).getD y1.toNat 0 = three16 pk0 y1 from rfl] at hc2))); refine Out.same ?_; go_simp; all_goals with_reducible rfl)
  refine Sim.one' (i := 14) (oi := { dst := some 25, op := Op.call { callee := Callee.value (Operand.func 62), args := #[Operand.tmp 24, Operand.const (Value.int IntKind.i64 14)], argTypes := #[69, 3] }, type := 31, pos := "l20_draw.go:839", after := #[{ on := 13, ground := Ground.data }, { on := 8, ground := Ground.chain }], guard := none }) (by kernel_rfl) rfl (by rfl) (fun w0 hO hX K hK => ?_)
  have hF := hO; (try simp only [Own, Item.Holds, apartI, CellsAt, Nat.reduceAdd, Nat.zero_add, List.mem_cons, List.not_mem_nil, or_false, forall_eq_or_imp, forall_eq, ne_eq, false_imp_iff, implies_true, and_true] at hF)
  go_simp
  refine (l20Way_any r (500 + 100 * 2) _ _ (hX rfl) (by omega) (by omega) (by omega)).mono ?_
  rintro e wa ⟨st, ha, hst, hha, rfl, hR4, hB4⟩
  apply hK _ _ _ (fun W => RdIf (Nat.blt 3 3) W r (500 + 100 * 3))
  · exact Own.drawn hB4 hr0 (ne_rd16 hO (hX rfl) HU0.out (by simp [numHead16])) hO
  · exact fun _ => hR4.mono (by omega)
  · exact XStab.rdIf
  · exact fun _ _ h => h
  clear hR4 hB4
  clear hK K hF hO
  try simp only [Act.put, List.setIfInBounds_toArray, List.set_cons_zero, List.set_cons_succ]
  refine Sim.sP (i := 15) (d := some 2) (h := ?_)
  refine Sim.sP (i := 16) (d := some 3) (h := ?_)
  refine Sim.one' (i := 17) (oi := { dst := none, op := Op.store 31 (Operand.tmp 4) (Operand.tmp 25), type := 0, pos := "l20_draw.go:839", after := #[{ on := 14, ground := Ground.data }, { on := 16, ground := Ground.chain }, { on := 0, ground := Ground.phase }, { on := 1, ground := Ground.phase }, { on := 2, ground := Ground.phase }, { on := 3, ground := Ground.phase }, { on := 4, ground := Ground.phase }, { on := 5, ground := Ground.phase }, { on := 6, ground := Ground.phase }, { on := 7, ground := Ground.phase }, { on := 8, ground := Ground.phase }, { on := 9, ground := Ground.phase }, { on := 10, ground := Ground.phase }, { on := 11, ground := Ground.phase }, { on := 12, ground := Ground.phase }, { on := 13, ground := Ground.phase }, { on := 14, ground := Ground.phase }, { on := 15, ground := Ground.phase }, { on := 16, ground := Ground.phase }], guard := none }) (by kernel_rfl) rfl (by rfl) (fun w0 hO hX K hK => ?_)
  have hF := hO; (try simp only [Own, Item.Holds, apartI, CellsAt, Nat.reduceAdd, Nat.zero_add, List.mem_cons, List.not_mem_nil, or_false, forall_eq_or_imp, forall_eq, ne_eq, false_imp_iff, implies_true, and_true] at hF); ((try (have hc1 := hO.int_at (x := pk1) [0, 0, 0, 0, 0, 1, 2] (by first | exact List.mem_cons_self | exact List.mem_cons_of_mem _ List.mem_cons_self) lo1 (by simpa using hi1); rw [hy1] at hc1)); (try (have hc2 := hO.int_at (x := y1) [12 * (1 + pk0), 0, 769] (by first | exact List.mem_cons_self | exact List.mem_cons_of_mem _ List.mem_cons_self) ya1 (by simpa using yb1); rw [show ([12 * (1 + pk0), 0, 769] : List Int).getD y1.toNat 0 = three16 pk0 y1 from rfl] at hc2)))
  go_simp
  apply hK _ _ _ (fun W => RdIf (Nat.blt 3 3) W r (500 + 100 * 3))
  (repeat (first | (with_reducible exact hO) | (with_reducible apply Own.alloc) | (with_reducible apply Own.drew) | ((with_reducible apply Own.set_at); (focus (show _ ≤ _; omega)))))
  · first | exact trivial | exact hX | exact hX.below (below1 _) | exact RdIf.gone | exact hX.keep ((Below.refl _ _).setCell (by first | omega | (dsimp only; omega)) _)
  · exact (by first | exact XStab.true | exact XStab.rd | exact XStab.rdIf)
  · first | exact fun _ _ h => h.2 | exact fun _ _ h => h | exact fun h => absurd h (by decide)
  try simp only [upd, updI, List.map_cons, List.map_nil, eq_self, if_true, if_false, reduceIte, Nat.add_eq_left, Nat.left_eq_add, Nat.reduceEqDiff, List.set_cons_zero, List.set_cons_succ, hF]
  clear hK K hF hO
  try simp only [Act.put, List.setIfInBounds_toArray, List.set_cons_zero, List.set_cons_succ]
  refine Sim.done (by kernel_rfl) (fun w1 hO hX => ?_) _
  (try simp only [World.size_alloc1, World.size_drew, Nat.reduceAdd] at hO); (try simp only [upd, updI, List.map_cons, List.map_nil, eq_self, if_true, if_false, reduceIte, Nat.add_eq_left, Nat.left_eq_add, Nat.reduceEqDiff, List.set_cons_zero, List.set_cons_succ] at hO)
  have hF := hO; (try simp only [Own, Item.Holds, apartI, CellsAt, Nat.reduceAdd, Nat.zero_add, List.mem_cons, List.not_mem_nil, or_false, forall_eq_or_imp, forall_eq, ne_eq, false_imp_iff, implies_true, and_true] at hF)
  rotate_left 1
  have hF := hO; (try simp only [Own, Item.Holds, apartI, CellsAt, Nat.reduceAdd, Nat.zero_add, List.mem_cons, List.not_mem_nil, or_false, forall_eq_or_imp, forall_eq, ne_eq, false_imp_iff, implies_true, and_true] at hF)
  go_simp
  refine (pick_any r (500 + 100 * 1) _ _ (hX rfl) (by omega) (by decide) (by decide)).mono ?_
  rintro e wa ⟨pk1, lo1, hi1, rfl, hR4, hB4⟩
  have sb1 := seven16 pk1
  have wa1 : IntKind.i64.wrap (1 + pk1) = 1 + pk1 := IntWalk.i64_in _ (by omega)
  have wb1 : IntKind.i64.wrap (12 * (1 + pk1)) = 12 * (1 + pk1) := IntWalk.i64_in _ (by omega)
  obtain ⟨y1, hy1⟩ : ∃ y, ([0, 0, 0, 0, 0, 1, 2] : List Int).getD pk1.toNat 0 = y := ⟨_, rfl⟩
  rw [hy1] at sb1
  obtain ⟨ya1, yb1⟩ := sb1
  apply hK _ _ _ (fun W => RdIf (Nat.blt 2 3) W r (500 + 100 * 2))
  · exact Own.drawn hB4 hr0 (ne_rd16 hO (hX rfl) HU0.out (by simp [numHead16])) hO
  · exact fun _ => hR4.mono (by omega)
  · exact XStab.rdIf
  · exact fun _ _ h => h
  clear hR4 hB4
  clear hK K hF hO
  try simp only [Act.put, List.setIfInBounds_toArray, List.set_cons_zero, List.set_cons_succ]
  refine Sim.many (rs := [6, 14]) (by kernel_rfl) (by decide) ?_
  refine AllS.cons (oi := { dst := some 17, op := Op.buildSlice 55 7 #[(0, Operand.const (Value.int IntKind.i64 0)), (1, Operand.const (Value.int IntKind.i64 0)), (2, Operand.const (Value.int IntKind.i64 0)), (3, Operand.const (Value.int IntKind.i64 0)), (4, Operand.const (Value.int IntKind.i64 0)), (5, Operand.const (Value.int IntKind.i64 1)), (6, Operand.const (Value.int IntKind.i64 2))], type := 55, pos := "l20_draw.go:839", after := #[{ on := 15, ground := Ground.gcOnly Departure.lateStores }], guard := none }) rfl (by rfl) (fun w0 hO hX K hK => ?_) ?_
  rotate_left
  refine AllS.cons (oi := { dst := some 25, op := Op.call { callee := Callee.value (Operand.func 62), args := #[Operand.tmp 24, Operand.const (Value.int IntKind.i64 14)], argTypes := #[69, 3] }, type := 31, pos := "l20_draw.go:839", after := #[{ on := 13, ground := Ground.data }, { on := 8, ground := Ground.chain }], guard := none }) rfl (by rfl) (fun w0 hO hX K hK => ?_) ?_
  rotate_left
  exact AllS.nil
  rotate_right 2
  have hF := hO; (try simp only [Own, Item.Holds, apartI, CellsAt, Nat.reduceAdd, Nat.zero_add, List.mem_cons, List.not_mem_nil, or_false, forall_eq_or_imp, forall_eq, ne_eq, false_imp_iff, implies_true, and_true] at hF)
  go_simp
  apply hK _ _ _ (fun W => RdIf (Nat.blt 2 3) W r (500 + 100 * 2))
  (repeat (first | (with_reducible exact hO) | (with_reducible apply Own.alloc) | (with_reducible apply Own.drew) | ((with_reducible apply Own.set_at); (focus (show _ ≤ _; omega)))))
  · first | exact trivial | exact hX | exact hX.below (below1 _) | exact RdIf.gone | exact hX.keep ((Below.refl _ _).setCell (by first | omega | (dsimp only; omega)) _)
  · exact (by first | exact XStab.true | exact XStab.rd | exact XStab.rdIf)
  · first | exact fun _ _ h => h.2 | exact fun _ _ h => h | exact fun h => absurd h (by decide)
  try simp only [upd, updI, List.map_cons, List.map_nil, eq_self, if_true, if_false, reduceIte, Nat.add_eq_left, Nat.left_eq_add, Nat.reduceEqDiff, List.set_cons_zero, List.set_cons_succ, hF]
  clear hK K hF hO
  try simp only [Act.put, List.setIfInBounds_toArray, List.set_cons_zero, List.set_cons_succ]
  refine Sim.sP (i := 9) (d := some 20) (h := ?_)
  refine Sim.sO (i := 10) (d := some 21) (v := ?_) (hy := ?_) (h := ?_)
  rotate_left
  · first | refine Or.inl ⟨by rfl, fun w hO => ?_⟩ | (refine Or.inr ⟨by rfl, ?_⟩; with_reducible rfl)
    first | done | (have hF := hO; (try simp only [Own, Item.Holds, apartI, CellsAt, Nat.reduceAdd, Nat.zero_add, List.mem_cons, List.not_mem_nil, or_false, forall_eq_or_imp, forall_eq, ne_eq, false_imp_iff, implies_true, and_true] at hF); ((try (have hc1 := hO.int_at (x := pk1) [0, 0, 0, 0, 0, 1, 2] (by first | exact List.mem_cons_self | exact List.mem_cons_of_mem _ List.mem_cons_self) lo1 (by simpa using hi1); rw [hy1] at hc1)); (try (have hc2 := hO.int_at (x := y1) [12 * (1 + pk0), 0, 769] (by first | exact List.mem_cons_self | exact List.mem_cons_of_mem _ List.mem_cons_self) ya1 (by simpa using yb1); rw [show ([12 * (1 + pk0), 0, 769] : List Int).getD y1.toNat 0 = three16 pk0 y1 from rfl] at hc2))); refine Out.same ?_; go_simp; all_goals with_reducible rfl)
  refine Sim.sP (i := 11) (d := some 22) (h := ?_)
  refine Sim.sO (i := 12) (d := some 23) (v := ?_) (hy := ?_) (h := ?_)
  rotate_left
  · first | refine Or.inl ⟨by rfl, fun w hO => ?_⟩ | (refine Or.inr ⟨by rfl, ?_⟩; with_reducible rfl)
    first | done | (have hF := hO; (try simp only [Own, Item.Holds, apartI, CellsAt, Nat.reduceAdd, Nat.zero_add, List.mem_cons, List.not_mem_nil, or_false, forall_eq_or_imp, forall_eq, ne_eq, false_imp_iff, implies_true, and_true] at hF); ((try (have hc1 := hO.int_at (x := pk1) [0, 0, 0, 0, 0, 1, 2] (by first | exact List.mem_cons_self | exact List.mem_cons_of_mem _ List.mem_cons_self) lo1 (by simpa using hi1); rw [hy1] at hc1)); (try (have hc2 := hO.int_at (x := y1) [12 * (1 + pk0), 0, 769] (by first | exact List.mem_cons_self | exact List.mem_cons_of_mem _ List.mem_cons_self) ya1 (by simpa using yb1); rw [show ([12 * (1 + pk0), 0, 769] : List Int).getD y1.toNat 0 = three16 pk0 y1 from rfl] at hc2))); refine Out.same ?_; go_simp; all_goals with_reducible rfl)
  refine Sim.one' (i := 14) (oi := { dst := some 25, op := Op.call { callee := Callee.value (Operand.func 62), args := #[Operand.tmp 24, Operand.const (Value.int IntKind.i64 14)], argTypes := #[69, 3] }, type := 31, pos := "l20_draw.go:839", after := #[{ on := 13, ground := Ground.data }, { on := 8, ground := Ground.chain }], guard := none }) (by kernel_rfl) rfl (by rfl) (fun w0 hO hX K hK => ?_)
  have hF := hO; (try simp only [Own, Item.Holds, apartI, CellsAt, Nat.reduceAdd, Nat.zero_add, List.mem_cons, List.not_mem_nil, or_false, forall_eq_or_imp, forall_eq, ne_eq, false_imp_iff, implies_true, and_true] at hF)
  go_simp
  refine (l20Way_any r (500 + 100 * 2) _ _ (hX rfl) (by omega) (by omega) (by omega)).mono ?_
  rintro e wa ⟨st, ha, hst, hha, rfl, hR4, hB4⟩
  apply hK _ _ _ (fun W => RdIf (Nat.blt 3 3) W r (500 + 100 * 3))
  · exact Own.drawn hB4 hr0 (ne_rd16 hO (hX rfl) HU0.out (by simp [numHead16])) hO
  · exact fun _ => hR4.mono (by omega)
  · exact XStab.rdIf
  · exact fun _ _ h => h
  clear hR4 hB4
  clear hK K hF hO
  try simp only [Act.put, List.setIfInBounds_toArray, List.set_cons_zero, List.set_cons_succ]
  refine Sim.sP (i := 15) (d := some 2) (h := ?_)
  refine Sim.sP (i := 16) (d := some 3) (h := ?_)
  refine Sim.one' (i := 17) (oi := { dst := none, op := Op.store 31 (Operand.tmp 4) (Operand.tmp 25), type := 0, pos := "l20_draw.go:839", after := #[{ on := 14, ground := Ground.data }, { on := 16, ground := Ground.chain }, { on := 0, ground := Ground.phase }, { on := 1, ground := Ground.phase }, { on := 2, ground := Ground.phase }, { on := 3, ground := Ground.phase }, { on := 4, ground := Ground.phase }, { on := 5, ground := Ground.phase }, { on := 6, ground := Ground.phase }, { on := 7, ground := Ground.phase }, { on := 8, ground := Ground.phase }, { on := 9, ground := Ground.phase }, { on := 10, ground := Ground.phase }, { on := 11, ground := Ground.phase }, { on := 12, ground := Ground.phase }, { on := 13, ground := Ground.phase }, { on := 14, ground := Ground.phase }, { on := 15, ground := Ground.phase }, { on := 16, ground := Ground.phase }], guard := none }) (by kernel_rfl) rfl (by rfl) (fun w0 hO hX K hK => ?_)
  have hF := hO; (try simp only [Own, Item.Holds, apartI, CellsAt, Nat.reduceAdd, Nat.zero_add, List.mem_cons, List.not_mem_nil, or_false, forall_eq_or_imp, forall_eq, ne_eq, false_imp_iff, implies_true, and_true] at hF); ((try (have hc1 := hO.int_at (x := pk1) [0, 0, 0, 0, 0, 1, 2] (by first | exact List.mem_cons_self | exact List.mem_cons_of_mem _ List.mem_cons_self) lo1 (by simpa using hi1); rw [hy1] at hc1)); (try (have hc2 := hO.int_at (x := y1) [12 * (1 + pk0), 0, 769] (by first | exact List.mem_cons_self | exact List.mem_cons_of_mem _ List.mem_cons_self) ya1 (by simpa using yb1); rw [show ([12 * (1 + pk0), 0, 769] : List Int).getD y1.toNat 0 = three16 pk0 y1 from rfl] at hc2)))
  go_simp
  apply hK _ _ _ (fun W => RdIf (Nat.blt 3 3) W r (500 + 100 * 3))
  (repeat (first | (with_reducible exact hO) | (with_reducible apply Own.alloc) | (with_reducible apply Own.drew) | ((with_reducible apply Own.set_at); (focus (show _ ≤ _; omega)))))
  · first | exact trivial | exact hX | exact hX.below (below1 _) | exact RdIf.gone | exact hX.keep ((Below.refl _ _).setCell (by first | omega | (dsimp only; omega)) _)
  · exact (by first | exact XStab.true | exact XStab.rd | exact XStab.rdIf)
  · first | exact fun _ _ h => h.2 | exact fun _ _ h => h | exact fun h => absurd h (by decide)
  try simp only [upd, updI, List.map_cons, List.map_nil, eq_self, if_true, if_false, reduceIte, Nat.add_eq_left, Nat.left_eq_add, Nat.reduceEqDiff, List.set_cons_zero, List.set_cons_succ, hF]
  clear hK K hF hO
  try simp only [Act.put, List.setIfInBounds_toArray, List.set_cons_zero, List.set_cons_succ]
  refine Sim.done (by kernel_rfl) (fun w1 hO hX => ?_) _
  (try simp only [World.size_alloc1, World.size_drew, Nat.reduceAdd] at hO); (try simp only [upd, updI, List.map_cons, List.map_nil, eq_self, if_true, if_false, reduceIte, Nat.add_eq_left, Nat.left_eq_add, Nat.reduceEqDiff, List.set_cons_zero, List.set_cons_succ] at hO)
  have hF := hO; (try simp only [Own, Item.Holds, apartI, CellsAt, Nat.reduceAdd, Nat.zero_add, List.mem_cons, List.not_mem_nil, or_false, forall_eq_or_imp, forall_eq, ne_eq, false_imp_iff, implies_true, and_true] at hF)
  rotate_left 1
  have hF := hO; (try simp only [Own, Item.Holds, apartI, CellsAt, Nat.reduceAdd, Nat.zero_add, List.mem_cons, List.not_mem_nil, or_false, forall_eq_or_imp, forall_eq, ne_eq, false_imp_iff, implies_true, and_true] at hF)
  go_simp
  refine (l20Way_any r (500 + 100 * 2) _ _ (hX rfl) (by omega) (by omega) (by omega)).mono ?_
  rintro e wa ⟨st, ha, hst, hha, rfl, hR4, hB4⟩
  apply hK _ _ _ (fun W => RdIf (Nat.blt 3 3) W r (500 + 100 * 3))
  · exact Own.drawn hB4 hr0 (ne_rd16 hO (hX rfl) HU0.out (by simp [numHead16])) hO
  · exact fun _ => hR4.mono (by omega)
  · exact XStab.rdIf
  · exact fun _ _ h => h
  clear hR4 hB4
  clear hK K hF hO
  try simp only [Act.put, List.setIfInBounds_toArray, List.set_cons_zero, List.set_cons_succ]
  refine Sim.sP (i := 15) (d := some 2) (h := ?_)
  refine Sim.one' (i := 6) (oi := { dst := some 17, op := Op.buildSlice 55 7 #[(0, Operand.const (Value.int IntKind.i64 0)), (1, Operand.const (Value.int IntKind.i64 0)), (2, Operand.const (Value.int IntKind.i64 0)), (3, Operand.const (Value.int IntKind.i64 0)), (4, Operand.const (Value.int IntKind.i64 0)), (5, Operand.const (Value.int IntKind.i64 1)), (6, Operand.const (Value.int IntKind.i64 2))], type := 55, pos := "l20_draw.go:839", after := #[{ on := 15, ground := Ground.gcOnly Departure.lateStores }], guard := none }) (by kernel_rfl) rfl (by rfl) (fun w0 hO hX K hK => ?_)
  have hF := hO; (try simp only [Own, Item.Holds, apartI, CellsAt, Nat.reduceAdd, Nat.zero_add, List.mem_cons, List.not_mem_nil, or_false, forall_eq_or_imp, forall_eq, ne_eq, false_imp_iff, implies_true, and_true] at hF)
  go_simp
  apply hK _ _ _ (fun W => RdIf (Nat.blt 3 3) W r (500 + 100 * 3))
  (repeat (first | (with_reducible exact hO) | (with_reducible apply Own.alloc) | (with_reducible apply Own.drew) | ((with_reducible apply Own.set_at); (focus (show _ ≤ _; omega)))))
  · first | exact trivial | exact hX | exact hX.below (below1 _) | exact RdIf.gone | exact hX.keep ((Below.refl _ _).setCell (by first | omega | (dsimp only; omega)) _)
  · exact (by first | exact XStab.true | exact XStab.rd | exact XStab.rdIf)
  · first | exact fun _ _ h => h.2 | exact fun _ _ h => h | exact fun h => absurd h (by decide)
  try simp only [upd, updI, List.map_cons, List.map_nil, eq_self, if_true, if_false, reduceIte, Nat.add_eq_left, Nat.left_eq_add, Nat.reduceEqDiff, List.set_cons_zero, List.set_cons_succ, hF]
  clear hK K hF hO
  try simp only [Act.put, List.setIfInBounds_toArray, List.set_cons_zero, List.set_cons_succ]
  refine Sim.sP (i := 9) (d := some 20) (h := ?_)
  refine Sim.sO (i := 10) (d := some 21) (v := ?_) (hy := ?_) (h := ?_)
  rotate_left
  · first | refine Or.inl ⟨by rfl, fun w hO => ?_⟩ | (refine Or.inr ⟨by rfl, ?_⟩; with_reducible rfl)
    first | done | (have hF := hO; (try simp only [Own, Item.Holds, apartI, CellsAt, Nat.reduceAdd, Nat.zero_add, List.mem_cons, List.not_mem_nil, or_false, forall_eq_or_imp, forall_eq, ne_eq, false_imp_iff, implies_true, and_true] at hF); ((try (have hc1 := hO.int_at (x := pk1) [0, 0, 0, 0, 0, 1, 2] (by first | exact List.mem_cons_self | exact List.mem_cons_of_mem _ List.mem_cons_self) lo1 (by simpa using hi1); rw [hy1] at hc1)); (try (have hc2 := hO.int_at (x := y1) [12 * (1 + pk0), 0, 769] (by first | exact List.mem_cons_self | exact List.mem_cons_of_mem _ List.mem_cons_self) ya1 (by simpa using yb1); rw [show ([12 * (1 + pk0), 0, 769] : List Int).getD y1.toNat 0 = three16 pk0 y1 from rfl] at hc2))); refine Out.same ?_; go_simp; all_goals with_reducible rfl)
  refine Sim.sP (i := 11) (d := some 22) (h := ?_)
  refine Sim.sO (i := 12) (d := some 23) (v := ?_) (hy := ?_) (h := ?_)
  rotate_left
  · first | refine Or.inl ⟨by rfl, fun w hO => ?_⟩ | (refine Or.inr ⟨by rfl, ?_⟩; with_reducible rfl)
    first | done | (have hF := hO; (try simp only [Own, Item.Holds, apartI, CellsAt, Nat.reduceAdd, Nat.zero_add, List.mem_cons, List.not_mem_nil, or_false, forall_eq_or_imp, forall_eq, ne_eq, false_imp_iff, implies_true, and_true] at hF); ((try (have hc1 := hO.int_at (x := pk1) [0, 0, 0, 0, 0, 1, 2] (by first | exact List.mem_cons_self | exact List.mem_cons_of_mem _ List.mem_cons_self) lo1 (by simpa using hi1); rw [hy1] at hc1)); (try (have hc2 := hO.int_at (x := y1) [12 * (1 + pk0), 0, 769] (by first | exact List.mem_cons_self | exact List.mem_cons_of_mem _ List.mem_cons_self) ya1 (by simpa using yb1); rw [show ([12 * (1 + pk0), 0, 769] : List Int).getD y1.toNat 0 = three16 pk0 y1 from rfl] at hc2))); refine Out.same ?_; go_simp; all_goals with_reducible rfl)
  refine Sim.sP (i := 16) (d := some 3) (h := ?_)
  refine Sim.one' (i := 17) (oi := { dst := none, op := Op.store 31 (Operand.tmp 4) (Operand.tmp 25), type := 0, pos := "l20_draw.go:839", after := #[{ on := 14, ground := Ground.data }, { on := 16, ground := Ground.chain }, { on := 0, ground := Ground.phase }, { on := 1, ground := Ground.phase }, { on := 2, ground := Ground.phase }, { on := 3, ground := Ground.phase }, { on := 4, ground := Ground.phase }, { on := 5, ground := Ground.phase }, { on := 6, ground := Ground.phase }, { on := 7, ground := Ground.phase }, { on := 8, ground := Ground.phase }, { on := 9, ground := Ground.phase }, { on := 10, ground := Ground.phase }, { on := 11, ground := Ground.phase }, { on := 12, ground := Ground.phase }, { on := 13, ground := Ground.phase }, { on := 14, ground := Ground.phase }, { on := 15, ground := Ground.phase }, { on := 16, ground := Ground.phase }], guard := none }) (by kernel_rfl) rfl (by rfl) (fun w0 hO hX K hK => ?_)
  have hF := hO; (try simp only [Own, Item.Holds, apartI, CellsAt, Nat.reduceAdd, Nat.zero_add, List.mem_cons, List.not_mem_nil, or_false, forall_eq_or_imp, forall_eq, ne_eq, false_imp_iff, implies_true, and_true] at hF); ((try (have hc1 := hO.int_at (x := pk1) [0, 0, 0, 0, 0, 1, 2] (by first | exact List.mem_cons_self | exact List.mem_cons_of_mem _ List.mem_cons_self) lo1 (by simpa using hi1); rw [hy1] at hc1)); (try (have hc2 := hO.int_at (x := y1) [12 * (1 + pk0), 0, 769] (by first | exact List.mem_cons_self | exact List.mem_cons_of_mem _ List.mem_cons_self) ya1 (by simpa using yb1); rw [show ([12 * (1 + pk0), 0, 769] : List Int).getD y1.toNat 0 = three16 pk0 y1 from rfl] at hc2)))
  go_simp
  apply hK _ _ _ (fun W => RdIf (Nat.blt 3 3) W r (500 + 100 * 3))
  (repeat (first | (with_reducible exact hO) | (with_reducible apply Own.alloc) | (with_reducible apply Own.drew) | ((with_reducible apply Own.set_at); (focus (show _ ≤ _; omega)))))
  · first | exact trivial | exact hX | exact hX.below (below1 _) | exact RdIf.gone | exact hX.keep ((Below.refl _ _).setCell (by first | omega | (dsimp only; omega)) _)
  · exact (by first | exact XStab.true | exact XStab.rd | exact XStab.rdIf)
  · first | exact fun _ _ h => h.2 | exact fun _ _ h => h | exact fun h => absurd h (by decide)
  try simp only [upd, updI, List.map_cons, List.map_nil, eq_self, if_true, if_false, reduceIte, Nat.add_eq_left, Nat.left_eq_add, Nat.reduceEqDiff, List.set_cons_zero, List.set_cons_succ, hF]
  clear hK K hF hO
  try simp only [Act.put, List.setIfInBounds_toArray, List.set_cons_zero, List.set_cons_succ]
  refine Sim.done (by kernel_rfl) (fun w1 hO hX => ?_) _
  (try simp only [World.size_alloc1, World.size_drew, Nat.reduceAdd] at hO); (try simp only [upd, updI, List.map_cons, List.map_nil, eq_self, if_true, if_false, reduceIte, Nat.add_eq_left, Nat.left_eq_add, Nat.reduceEqDiff, List.set_cons_zero, List.set_cons_succ] at hO)
  have hF := hO; (try simp only [Own, Item.Holds, apartI, CellsAt, Nat.reduceAdd, Nat.zero_add, List.mem_cons, List.not_mem_nil, or_false, forall_eq_or_imp, forall_eq, ne_eq, false_imp_iff, implies_true, and_true] at hF)
  rotate_left 1
  have hF := hO; (try simp only [Own, Item.Holds, apartI, CellsAt, Nat.reduceAdd, Nat.zero_add, List.mem_cons, List.not_mem_nil, or_false, forall_eq_or_imp, forall_eq, ne_eq, false_imp_iff, implies_true, and_true] at hF)
  go_simp
  apply hK _ _ _ (fun W => RdIf (Nat.blt 1 3) W r (500 + 100 * 1))
  (repeat (first | (with_reducible exact hO) | (with_reducible apply Own.alloc) | (with_reducible apply Own.drew) | ((with_reducible apply Own.set_at); (focus (show _ ≤ _; omega)))))
  · first | exact trivial | exact hX | exact hX.below (below1 _) | exact RdIf.gone | exact hX.keep ((Below.refl _ _).setCell (by first | omega | (dsimp only; omega)) _)
  · exact (by first | exact XStab.true | exact XStab.rd | exact XStab.rdIf)
  · first | exact fun _ _ h => h.2 | exact fun _ _ h => h | exact fun h => absurd h (by decide)
  try simp only [upd, updI, List.map_cons, List.map_nil, eq_self, if_true, if_false, reduceIte, Nat.add_eq_left, Nat.left_eq_add, Nat.reduceEqDiff, List.set_cons_zero, List.set_cons_succ, hF]
  clear hK K hF hO
  try simp only [Act.put, List.setIfInBounds_toArray, List.set_cons_zero, List.set_cons_succ]
  refine Sim.many (rs := [5, 8]) (by kernel_rfl) (by decide) ?_
  refine AllS.cons (oi := { dst := some 16, op := Op.buildSlice 55 3 #[(0, Operand.tmp 15), (1, Operand.const (Value.int IntKind.i64 0)), (2, Operand.const (Value.int IntKind.i64 769))], type := 55, pos := "l20_draw.go:839", after := #[{ on := 4, ground := Ground.data }, { on := 15, ground := Ground.gcOnly Departure.lateStores }], guard := none }) rfl (by rfl) (fun w0 hO hX K hK => ?_) ?_
  rotate_left
  refine AllS.cons (oi := { dst := some 19, op := Op.call { callee := Callee.value (Operand.func 54), args := #[Operand.tmp 18, Operand.const (Value.int IntKind.i64 7)], argTypes := #[69, 3] }, type := 3, pos := "l20_draw.go:839", after := #[{ on := 7, ground := Ground.data }, { on := 2, ground := Ground.chain }], guard := none }) rfl (by rfl) (fun w0 hO hX K hK => ?_) ?_
  rotate_left
  exact AllS.nil
  rotate_right 2
  have hF := hO; (try simp only [Own, Item.Holds, apartI, CellsAt, Nat.reduceAdd, Nat.zero_add, List.mem_cons, List.not_mem_nil, or_false, forall_eq_or_imp, forall_eq, ne_eq, false_imp_iff, implies_true, and_true] at hF)
  go_simp
  apply hK _ _ _ (fun W => RdIf (Nat.blt 1 3) W r (500 + 100 * 1))
  (repeat (first | (with_reducible exact hO) | (with_reducible apply Own.alloc) | (with_reducible apply Own.drew) | ((with_reducible apply Own.set_at); (focus (show _ ≤ _; omega)))))
  · first | exact trivial | exact hX | exact hX.below (below1 _) | exact RdIf.gone | exact hX.keep ((Below.refl _ _).setCell (by first | omega | (dsimp only; omega)) _)
  · exact (by first | exact XStab.true | exact XStab.rd | exact XStab.rdIf)
  · first | exact fun _ _ h => h.2 | exact fun _ _ h => h | exact fun h => absurd h (by decide)
  try simp only [upd, updI, List.map_cons, List.map_nil, eq_self, if_true, if_false, reduceIte, Nat.add_eq_left, Nat.left_eq_add, Nat.reduceEqDiff, List.set_cons_zero, List.set_cons_succ, hF]
  clear hK K hF hO
  try simp only [Act.put, List.setIfInBounds_toArray, List.set_cons_zero, List.set_cons_succ]
  refine Sim.one' (i := 8) (oi := { dst := some 19, op := Op.call { callee := Callee.value (Operand.func 54), args := #[Operand.tmp 18, Operand.const (Value.int IntKind.i64 7)], argTypes := #[69, 3] }, type := 3, pos := "l20_draw.go:839", after := #[{ on := 7, ground := Ground.data }, { on := 2, ground := Ground.chain }], guard := none }) (by kernel_rfl) rfl (by rfl) (fun w0 hO hX K hK => ?_)
  have hF := hO; (try simp only [Own, Item.Holds, apartI, CellsAt, Nat.reduceAdd, Nat.zero_add, List.mem_cons, List.not_mem_nil, or_false, forall_eq_or_imp, forall_eq, ne_eq, false_imp_iff, implies_true, and_true] at hF)
  go_simp
  refine (pick_any r (500 + 100 * 1) _ _ (hX rfl) (by omega) (by decide) (by decide)).mono ?_
  rintro e wa ⟨pk1, lo1, hi1, rfl, hR4, hB4⟩
  have sb1 := seven16 pk1
  have wa1 : IntKind.i64.wrap (1 + pk1) = 1 + pk1 := IntWalk.i64_in _ (by omega)
  have wb1 : IntKind.i64.wrap (12 * (1 + pk1)) = 12 * (1 + pk1) := IntWalk.i64_in _ (by omega)
  obtain ⟨y1, hy1⟩ : ∃ y, ([0, 0, 0, 0, 0, 1, 2] : List Int).getD pk1.toNat 0 = y := ⟨_, rfl⟩
  rw [hy1] at sb1
  obtain ⟨ya1, yb1⟩ := sb1
  apply hK _ _ _ (fun W => RdIf (Nat.blt 2 3) W r (500 + 100 * 2))
  · exact Own.drawn hB4 hr0 (ne_rd16 hO (hX rfl) HU0.out (by simp [numHead16])) hO
  · exact fun _ => hR4.mono (by omega)
  · exact XStab.rdIf
  · exact fun _ _ h => h
  clear hR4 hB4
  clear hK K hF hO
  try simp only [Act.put, List.setIfInBounds_toArray, List.set_cons_zero, List.set_cons_succ]
  refine Sim.sP (i := 9) (d := some 20) (h := ?_)
  refine Sim.sO (i := 10) (d := some 21) (v := ?_) (hy := ?_) (h := ?_)
  rotate_left
  · first | refine Or.inl ⟨by rfl, fun w hO => ?_⟩ | (refine Or.inr ⟨by rfl, ?_⟩; with_reducible rfl)
    first | done | (have hF := hO; (try simp only [Own, Item.Holds, apartI, CellsAt, Nat.reduceAdd, Nat.zero_add, List.mem_cons, List.not_mem_nil, or_false, forall_eq_or_imp, forall_eq, ne_eq, false_imp_iff, implies_true, and_true] at hF); ((try (have hc1 := hO.int_at (x := pk1) [0, 0, 0, 0, 0, 1, 2] (by first | exact List.mem_cons_self | exact List.mem_cons_of_mem _ List.mem_cons_self) lo1 (by simpa using hi1); rw [hy1] at hc1)); (try (have hc2 := hO.int_at (x := y1) [12 * (1 + pk0), 0, 769] (by first | exact List.mem_cons_self | exact List.mem_cons_of_mem _ List.mem_cons_self) ya1 (by simpa using yb1); rw [show ([12 * (1 + pk0), 0, 769] : List Int).getD y1.toNat 0 = three16 pk0 y1 from rfl] at hc2))); refine Out.same ?_; go_simp; all_goals with_reducible rfl)
  refine Sim.sP (i := 11) (d := some 22) (h := ?_)
  refine Sim.sO (i := 12) (d := some 23) (v := ?_) (hy := ?_) (h := ?_)
  rotate_left
  · first | refine Or.inl ⟨by rfl, fun w hO => ?_⟩ | (refine Or.inr ⟨by rfl, ?_⟩; with_reducible rfl)
    first | done | (have hF := hO; (try simp only [Own, Item.Holds, apartI, CellsAt, Nat.reduceAdd, Nat.zero_add, List.mem_cons, List.not_mem_nil, or_false, forall_eq_or_imp, forall_eq, ne_eq, false_imp_iff, implies_true, and_true] at hF); ((try (have hc1 := hO.int_at (x := pk1) [0, 0, 0, 0, 0, 1, 2] (by first | exact List.mem_cons_self | exact List.mem_cons_of_mem _ List.mem_cons_self) lo1 (by simpa using hi1); rw [hy1] at hc1)); (try (have hc2 := hO.int_at (x := y1) [12 * (1 + pk0), 0, 769] (by first | exact List.mem_cons_self | exact List.mem_cons_of_mem _ List.mem_cons_self) ya1 (by simpa using yb1); rw [show ([12 * (1 + pk0), 0, 769] : List Int).getD y1.toNat 0 = three16 pk0 y1 from rfl] at hc2))); refine Out.same ?_; go_simp; all_goals with_reducible rfl)
  refine Sim.one' (i := 14) (oi := { dst := some 25, op := Op.call { callee := Callee.value (Operand.func 62), args := #[Operand.tmp 24, Operand.const (Value.int IntKind.i64 14)], argTypes := #[69, 3] }, type := 31, pos := "l20_draw.go:839", after := #[{ on := 13, ground := Ground.data }, { on := 8, ground := Ground.chain }], guard := none }) (by kernel_rfl) rfl (by rfl) (fun w0 hO hX K hK => ?_)
  have hF := hO; (try simp only [Own, Item.Holds, apartI, CellsAt, Nat.reduceAdd, Nat.zero_add, List.mem_cons, List.not_mem_nil, or_false, forall_eq_or_imp, forall_eq, ne_eq, false_imp_iff, implies_true, and_true] at hF)
  go_simp
  refine (l20Way_any r (500 + 100 * 2) _ _ (hX rfl) (by omega) (by omega) (by omega)).mono ?_
  rintro e wa ⟨st, ha, hst, hha, rfl, hR4, hB4⟩
  apply hK _ _ _ (fun W => RdIf (Nat.blt 3 3) W r (500 + 100 * 3))
  · exact Own.drawn hB4 hr0 (ne_rd16 hO (hX rfl) HU0.out (by simp [numHead16])) hO
  · exact fun _ => hR4.mono (by omega)
  · exact XStab.rdIf
  · exact fun _ _ h => h
  clear hR4 hB4
  clear hK K hF hO
  try simp only [Act.put, List.setIfInBounds_toArray, List.set_cons_zero, List.set_cons_succ]
  refine Sim.sP (i := 15) (d := some 2) (h := ?_)
  refine Sim.sP (i := 16) (d := some 3) (h := ?_)
  refine Sim.one' (i := 17) (oi := { dst := none, op := Op.store 31 (Operand.tmp 4) (Operand.tmp 25), type := 0, pos := "l20_draw.go:839", after := #[{ on := 14, ground := Ground.data }, { on := 16, ground := Ground.chain }, { on := 0, ground := Ground.phase }, { on := 1, ground := Ground.phase }, { on := 2, ground := Ground.phase }, { on := 3, ground := Ground.phase }, { on := 4, ground := Ground.phase }, { on := 5, ground := Ground.phase }, { on := 6, ground := Ground.phase }, { on := 7, ground := Ground.phase }, { on := 8, ground := Ground.phase }, { on := 9, ground := Ground.phase }, { on := 10, ground := Ground.phase }, { on := 11, ground := Ground.phase }, { on := 12, ground := Ground.phase }, { on := 13, ground := Ground.phase }, { on := 14, ground := Ground.phase }, { on := 15, ground := Ground.phase }, { on := 16, ground := Ground.phase }], guard := none }) (by kernel_rfl) rfl (by rfl) (fun w0 hO hX K hK => ?_)
  have hF := hO; (try simp only [Own, Item.Holds, apartI, CellsAt, Nat.reduceAdd, Nat.zero_add, List.mem_cons, List.not_mem_nil, or_false, forall_eq_or_imp, forall_eq, ne_eq, false_imp_iff, implies_true, and_true] at hF); ((try (have hc1 := hO.int_at (x := pk1) [0, 0, 0, 0, 0, 1, 2] (by first | exact List.mem_cons_self | exact List.mem_cons_of_mem _ List.mem_cons_self) lo1 (by simpa using hi1); rw [hy1] at hc1)); (try (have hc2 := hO.int_at (x := y1) [12 * (1 + pk0), 0, 769] (by first | exact List.mem_cons_self | exact List.mem_cons_of_mem _ List.mem_cons_self) ya1 (by simpa using yb1); rw [show ([12 * (1 + pk0), 0, 769] : List Int).getD y1.toNat 0 = three16 pk0 y1 from rfl] at hc2)))
  go_simp
  apply hK _ _ _ (fun W => RdIf (Nat.blt 3 3) W r (500 + 100 * 3))
  (repeat (first | (with_reducible exact hO) | (with_reducible apply Own.alloc) | (with_reducible apply Own.drew) | ((with_reducible apply Own.set_at); (focus (show _ ≤ _; omega)))))
  · first | exact trivial | exact hX | exact hX.below (below1 _) | exact RdIf.gone | exact hX.keep ((Below.refl _ _).setCell (by first | omega | (dsimp only; omega)) _)
  · exact (by first | exact XStab.true | exact XStab.rd | exact XStab.rdIf)
  · first | exact fun _ _ h => h.2 | exact fun _ _ h => h | exact fun h => absurd h (by decide)
  try simp only [upd, updI, List.map_cons, List.map_nil, eq_self, if_true, if_false, reduceIte, Nat.add_eq_left, Nat.left_eq_add, Nat.reduceEqDiff, List.set_cons_zero, List.set_cons_succ, hF]
  clear hK K hF hO
  try simp only [Act.put, List.setIfInBounds_toArray, List.set_cons_zero, List.set_cons_succ]
  refine Sim.done (by kernel_rfl) (fun w1 hO hX => ?_) _
  (try simp only [World.size_alloc1, World.size_drew, Nat.reduceAdd] at hO); (try simp only [upd, updI, List.map_cons, List.map_nil, eq_self, if_true, if_false, reduceIte, Nat.add_eq_left, Nat.left_eq_add, Nat.reduceEqDiff, List.set_cons_zero, List.set_cons_succ] at hO)
  have hF := hO; (try simp only [Own, Item.Holds, apartI, CellsAt, Nat.reduceAdd, Nat.zero_add, List.mem_cons, List.not_mem_nil, or_false, forall_eq_or_imp, forall_eq, ne_eq, false_imp_iff, implies_true, and_true] at hF)
  rotate_left 1
  have hF := hO; (try simp only [Own, Item.Holds, apartI, CellsAt, Nat.reduceAdd, Nat.zero_add, List.mem_cons, List.not_mem_nil, or_false, forall_eq_or_imp, forall_eq, ne_eq, false_imp_iff, implies_true, and_true] at hF)
  go_simp
  refine (pick_any r (500 + 100 * 1) _ _ (hX rfl) (by omega) (by decide) (by decide)).mono ?_
  rintro e wa ⟨pk1, lo1, hi1, rfl, hR4, hB4⟩
  have sb1 := seven16 pk1
  have wa1 : IntKind.i64.wrap (1 + pk1) = 1 + pk1 := IntWalk.i64_in _ (by omega)
  have wb1 : IntKind.i64.wrap (12 * (1 + pk1)) = 12 * (1 + pk1) := IntWalk.i64_in _ (by omega)
  obtain ⟨y1, hy1⟩ : ∃ y, ([0, 0, 0, 0, 0, 1, 2] : List Int).getD pk1.toNat 0 = y := ⟨_, rfl⟩
  rw [hy1] at sb1
  obtain ⟨ya1, yb1⟩ := sb1
  apply hK _ _ _ (fun W => RdIf (Nat.blt 2 3) W r (500 + 100 * 2))
  · exact Own.drawn hB4 hr0 (ne_rd16 hO (hX rfl) HU0.out (by simp [numHead16])) hO
  · exact fun _ => hR4.mono (by omega)
  · exact XStab.rdIf
  · exact fun _ _ h => h
  clear hR4 hB4
  clear hK K hF hO
  try simp only [Act.put, List.setIfInBounds_toArray, List.set_cons_zero, List.set_cons_succ]
  refine Sim.sP (i := 9) (d := some 20) (h := ?_)
  refine Sim.sO (i := 10) (d := some 21) (v := ?_) (hy := ?_) (h := ?_)
  rotate_left
  · first | refine Or.inl ⟨by rfl, fun w hO => ?_⟩ | (refine Or.inr ⟨by rfl, ?_⟩; with_reducible rfl)
    first | done | (have hF := hO; (try simp only [Own, Item.Holds, apartI, CellsAt, Nat.reduceAdd, Nat.zero_add, List.mem_cons, List.not_mem_nil, or_false, forall_eq_or_imp, forall_eq, ne_eq, false_imp_iff, implies_true, and_true] at hF); ((try (have hc1 := hO.int_at (x := pk1) [0, 0, 0, 0, 0, 1, 2] (by first | exact List.mem_cons_self | exact List.mem_cons_of_mem _ List.mem_cons_self) lo1 (by simpa using hi1); rw [hy1] at hc1)); (try (have hc2 := hO.int_at (x := y1) [12 * (1 + pk0), 0, 769] (by first | exact List.mem_cons_self | exact List.mem_cons_of_mem _ List.mem_cons_self) ya1 (by simpa using yb1); rw [show ([12 * (1 + pk0), 0, 769] : List Int).getD y1.toNat 0 = three16 pk0 y1 from rfl] at hc2))); refine Out.same ?_; go_simp; all_goals with_reducible rfl)
  refine Sim.many (rs := [5, 14]) (by kernel_rfl) (by decide) ?_
  refine AllS.cons (oi := { dst := some 16, op := Op.buildSlice 55 3 #[(0, Operand.tmp 15), (1, Operand.const (Value.int IntKind.i64 0)), (2, Operand.const (Value.int IntKind.i64 769))], type := 55, pos := "l20_draw.go:839", after := #[{ on := 4, ground := Ground.data }, { on := 15, ground := Ground.gcOnly Departure.lateStores }], guard := none }) rfl (by rfl) (fun w0 hO hX K hK => ?_) ?_
  rotate_left
  refine AllS.cons (oi := { dst := some 25, op := Op.call { callee := Callee.value (Operand.func 62), args := #[Operand.tmp 24, Operand.const (Value.int IntKind.i64 14)], argTypes := #[69, 3] }, type := 31, pos := "l20_draw.go:839", after := #[{ on := 13, ground := Ground.data }, { on := 8, ground := Ground.chain }], guard := none }) rfl (by rfl) (fun w0 hO hX K hK => ?_) ?_
  rotate_left
  exact AllS.nil
  rotate_right 2
  have hF := hO; (try simp only [Own, Item.Holds, apartI, CellsAt, Nat.reduceAdd, Nat.zero_add, List.mem_cons, List.not_mem_nil, or_false, forall_eq_or_imp, forall_eq, ne_eq, false_imp_iff, implies_true, and_true] at hF)
  go_simp
  apply hK _ _ _ (fun W => RdIf (Nat.blt 2 3) W r (500 + 100 * 2))
  (repeat (first | (with_reducible exact hO) | (with_reducible apply Own.alloc) | (with_reducible apply Own.drew) | ((with_reducible apply Own.set_at); (focus (show _ ≤ _; omega)))))
  · first | exact trivial | exact hX | exact hX.below (below1 _) | exact RdIf.gone | exact hX.keep ((Below.refl _ _).setCell (by first | omega | (dsimp only; omega)) _)
  · exact (by first | exact XStab.true | exact XStab.rd | exact XStab.rdIf)
  · first | exact fun _ _ h => h.2 | exact fun _ _ h => h | exact fun h => absurd h (by decide)
  try simp only [upd, updI, List.map_cons, List.map_nil, eq_self, if_true, if_false, reduceIte, Nat.add_eq_left, Nat.left_eq_add, Nat.reduceEqDiff, List.set_cons_zero, List.set_cons_succ, hF]
  clear hK K hF hO
  try simp only [Act.put, List.setIfInBounds_toArray, List.set_cons_zero, List.set_cons_succ]
  refine Sim.sP (i := 11) (d := some 22) (h := ?_)
  refine Sim.sO (i := 12) (d := some 23) (v := ?_) (hy := ?_) (h := ?_)
  rotate_left
  · first | refine Or.inl ⟨by rfl, fun w hO => ?_⟩ | (refine Or.inr ⟨by rfl, ?_⟩; with_reducible rfl)
    first | done | (have hF := hO; (try simp only [Own, Item.Holds, apartI, CellsAt, Nat.reduceAdd, Nat.zero_add, List.mem_cons, List.not_mem_nil, or_false, forall_eq_or_imp, forall_eq, ne_eq, false_imp_iff, implies_true, and_true] at hF); ((try (have hc1 := hO.int_at (x := pk1) [0, 0, 0, 0, 0, 1, 2] (by first | exact List.mem_cons_self | exact List.mem_cons_of_mem _ List.mem_cons_self) lo1 (by simpa using hi1); rw [hy1] at hc1)); (try (have hc2 := hO.int_at (x := y1) [12 * (1 + pk0), 0, 769] (by first | exact List.mem_cons_self | exact List.mem_cons_of_mem _ List.mem_cons_self) ya1 (by simpa using yb1); rw [show ([12 * (1 + pk0), 0, 769] : List Int).getD y1.toNat 0 = three16 pk0 y1 from rfl] at hc2))); refine Out.same ?_; go_simp; all_goals with_reducible rfl)
  refine Sim.one' (i := 14) (oi := { dst := some 25, op := Op.call { callee := Callee.value (Operand.func 62), args := #[Operand.tmp 24, Operand.const (Value.int IntKind.i64 14)], argTypes := #[69, 3] }, type := 31, pos := "l20_draw.go:839", after := #[{ on := 13, ground := Ground.data }, { on := 8, ground := Ground.chain }], guard := none }) (by kernel_rfl) rfl (by rfl) (fun w0 hO hX K hK => ?_)
  have hF := hO; (try simp only [Own, Item.Holds, apartI, CellsAt, Nat.reduceAdd, Nat.zero_add, List.mem_cons, List.not_mem_nil, or_false, forall_eq_or_imp, forall_eq, ne_eq, false_imp_iff, implies_true, and_true] at hF)
  go_simp
  refine (l20Way_any r (500 + 100 * 2) _ _ (hX rfl) (by omega) (by omega) (by omega)).mono ?_
  rintro e wa ⟨st, ha, hst, hha, rfl, hR4, hB4⟩
  apply hK _ _ _ (fun W => RdIf (Nat.blt 3 3) W r (500 + 100 * 3))
  · exact Own.drawn hB4 hr0 (ne_rd16 hO (hX rfl) HU0.out (by simp [numHead16])) hO
  · exact fun _ => hR4.mono (by omega)
  · exact XStab.rdIf
  · exact fun _ _ h => h
  clear hR4 hB4
  clear hK K hF hO
  try simp only [Act.put, List.setIfInBounds_toArray, List.set_cons_zero, List.set_cons_succ]
  refine Sim.sP (i := 15) (d := some 2) (h := ?_)
  refine Sim.sP (i := 16) (d := some 3) (h := ?_)
  refine Sim.one' (i := 17) (oi := { dst := none, op := Op.store 31 (Operand.tmp 4) (Operand.tmp 25), type := 0, pos := "l20_draw.go:839", after := #[{ on := 14, ground := Ground.data }, { on := 16, ground := Ground.chain }, { on := 0, ground := Ground.phase }, { on := 1, ground := Ground.phase }, { on := 2, ground := Ground.phase }, { on := 3, ground := Ground.phase }, { on := 4, ground := Ground.phase }, { on := 5, ground := Ground.phase }, { on := 6, ground := Ground.phase }, { on := 7, ground := Ground.phase }, { on := 8, ground := Ground.phase }, { on := 9, ground := Ground.phase }, { on := 10, ground := Ground.phase }, { on := 11, ground := Ground.phase }, { on := 12, ground := Ground.phase }, { on := 13, ground := Ground.phase }, { on := 14, ground := Ground.phase }, { on := 15, ground := Ground.phase }, { on := 16, ground := Ground.phase }], guard := none }) (by kernel_rfl) rfl (by rfl) (fun w0 hO hX K hK => ?_)
  have hF := hO; (try simp only [Own, Item.Holds, apartI, CellsAt, Nat.reduceAdd, Nat.zero_add, List.mem_cons, List.not_mem_nil, or_false, forall_eq_or_imp, forall_eq, ne_eq, false_imp_iff, implies_true, and_true] at hF); ((try (have hc1 := hO.int_at (x := pk1) [0, 0, 0, 0, 0, 1, 2] (by first | exact List.mem_cons_self | exact List.mem_cons_of_mem _ List.mem_cons_self) lo1 (by simpa using hi1); rw [hy1] at hc1)); (try (have hc2 := hO.int_at (x := y1) [12 * (1 + pk0), 0, 769] (by first | exact List.mem_cons_self | exact List.mem_cons_of_mem _ List.mem_cons_self) ya1 (by simpa using yb1); rw [show ([12 * (1 + pk0), 0, 769] : List Int).getD y1.toNat 0 = three16 pk0 y1 from rfl] at hc2)))
  go_simp
  apply hK _ _ _ (fun W => RdIf (Nat.blt 3 3) W r (500 + 100 * 3))
  (repeat (first | (with_reducible exact hO) | (with_reducible apply Own.alloc) | (with_reducible apply Own.drew) | ((with_reducible apply Own.set_at); (focus (show _ ≤ _; omega)))))
  · first | exact trivial | exact hX | exact hX.below (below1 _) | exact RdIf.gone | exact hX.keep ((Below.refl _ _).setCell (by first | omega | (dsimp only; omega)) _)
  · exact (by first | exact XStab.true | exact XStab.rd | exact XStab.rdIf)
  · first | exact fun _ _ h => h.2 | exact fun _ _ h => h | exact fun h => absurd h (by decide)
  try simp only [upd, updI, List.map_cons, List.map_nil, eq_self, if_true, if_false, reduceIte, Nat.add_eq_left, Nat.left_eq_add, Nat.reduceEqDiff, List.set_cons_zero, List.set_cons_succ, hF]
  clear hK K hF hO
  try simp only [Act.put, List.setIfInBounds_toArray, List.set_cons_zero, List.set_cons_succ]
  refine Sim.done (by kernel_rfl) (fun w1 hO hX => ?_) _
  (try simp only [World.size_alloc1, World.size_drew, Nat.reduceAdd] at hO); (try simp only [upd, updI, List.map_cons, List.map_nil, eq_self, if_true, if_false, reduceIte, Nat.add_eq_left, Nat.left_eq_add, Nat.reduceEqDiff, List.set_cons_zero, List.set_cons_succ] at hO)
  have hF := hO; (try simp only [Own, Item.Holds, apartI, CellsAt, Nat.reduceAdd, Nat.zero_add, List.mem_cons, List.not_mem_nil, or_false, forall_eq_or_imp, forall_eq, ne_eq, false_imp_iff, implies_true, and_true] at hF)
  rotate_left 1
  have hF := hO; (try simp only [Own, Item.Holds, apartI, CellsAt, Nat.reduceAdd, Nat.zero_add, List.mem_cons, List.not_mem_nil, or_false, forall_eq_or_imp, forall_eq, ne_eq, false_imp_iff, implies_true, and_true] at hF)
  go_simp
  refine (l20Way_any r (500 + 100 * 2) _ _ (hX rfl) (by omega) (by omega) (by omega)).mono ?_
  rintro e wa ⟨st, ha, hst, hha, rfl, hR4, hB4⟩
  apply hK _ _ _ (fun W => RdIf (Nat.blt 3 3) W r (500 + 100 * 3))
  · exact Own.drawn hB4 hr0 (ne_rd16 hO (hX rfl) HU0.out (by simp [numHead16])) hO
  · exact fun _ => hR4.mono (by omega)
  · exact XStab.rdIf
  · exact fun _ _ h => h
  clear hR4 hB4
  clear hK K hF hO
  try simp only [Act.put, List.setIfInBounds_toArray, List.set_cons_zero, List.set_cons_succ]
  refine Sim.sP (i := 15) (d := some 2) (h := ?_)
  refine Sim.one' (i := 5) (oi := { dst := some 16, op := Op.buildSlice 55 3 #[(0, Operand.tmp 15), (1, Operand.const (Value.int IntKind.i64 0)), (2, Operand.const (Value.int IntKind.i64 769))], type := 55, pos := "l20_draw.go:839", after := #[{ on := 4, ground := Ground.data }, { on := 15, ground := Ground.gcOnly Departure.lateStores }], guard := none }) (by kernel_rfl) rfl (by rfl) (fun w0 hO hX K hK => ?_)
  have hF := hO; (try simp only [Own, Item.Holds, apartI, CellsAt, Nat.reduceAdd, Nat.zero_add, List.mem_cons, List.not_mem_nil, or_false, forall_eq_or_imp, forall_eq, ne_eq, false_imp_iff, implies_true, and_true] at hF)
  go_simp
  apply hK _ _ _ (fun W => RdIf (Nat.blt 3 3) W r (500 + 100 * 3))
  (repeat (first | (with_reducible exact hO) | (with_reducible apply Own.alloc) | (with_reducible apply Own.drew) | ((with_reducible apply Own.set_at); (focus (show _ ≤ _; omega)))))
  · first | exact trivial | exact hX | exact hX.below (below1 _) | exact RdIf.gone | exact hX.keep ((Below.refl _ _).setCell (by first | omega | (dsimp only; omega)) _)
  · exact (by first | exact XStab.true | exact XStab.rd | exact XStab.rdIf)
  · first | exact fun _ _ h => h.2 | exact fun _ _ h => h | exact fun h => absurd h (by decide)
  try simp only [upd, updI, List.map_cons, List.map_nil, eq_self, if_true, if_false, reduceIte, Nat.add_eq_left, Nat.left_eq_add, Nat.reduceEqDiff, List.set_cons_zero, List.set_cons_succ, hF]
  clear hK K hF hO
  try simp only [Act.put, List.setIfInBounds_toArray, List.set_cons_zero, List.set_cons_succ]
  refine Sim.sP (i := 11) (d := some 22) (h := ?_)
  refine Sim.sO (i := 12) (d := some 23) (v := ?_) (hy := ?_) (h := ?_)
  rotate_left
  · first | refine Or.inl ⟨by rfl, fun w hO => ?_⟩ | (refine Or.inr ⟨by rfl, ?_⟩; with_reducible rfl)
    first | done | (have hF := hO; (try simp only [Own, Item.Holds, apartI, CellsAt, Nat.reduceAdd, Nat.zero_add, List.mem_cons, List.not_mem_nil, or_false, forall_eq_or_imp, forall_eq, ne_eq, false_imp_iff, implies_true, and_true] at hF); ((try (have hc1 := hO.int_at (x := pk1) [0, 0, 0, 0, 0, 1, 2] (by first | exact List.mem_cons_self | exact List.mem_cons_of_mem _ List.mem_cons_self) lo1 (by simpa using hi1); rw [hy1] at hc1)); (try (have hc2 := hO.int_at (x := y1) [12 * (1 + pk0), 0, 769] (by first | exact List.mem_cons_self | exact List.mem_cons_of_mem _ List.mem_cons_self) ya1 (by simpa using yb1); rw [show ([12 * (1 + pk0), 0, 769] : List Int).getD y1.toNat 0 = three16 pk0 y1 from rfl] at hc2))); refine Out.same ?_; go_simp; all_goals with_reducible rfl)
  refine Sim.sP (i := 16) (d := some 3) (h := ?_)
  refine Sim.one' (i := 17) (oi := { dst := none, op := Op.store 31 (Operand.tmp 4) (Operand.tmp 25), type := 0, pos := "l20_draw.go:839", after := #[{ on := 14, ground := Ground.data }, { on := 16, ground := Ground.chain }, { on := 0, ground := Ground.phase }, { on := 1, ground := Ground.phase }, { on := 2, ground := Ground.phase }, { on := 3, ground := Ground.phase }, { on := 4, ground := Ground.phase }, { on := 5, ground := Ground.phase }, { on := 6, ground := Ground.phase }, { on := 7, ground := Ground.phase }, { on := 8, ground := Ground.phase }, { on := 9, ground := Ground.phase }, { on := 10, ground := Ground.phase }, { on := 11, ground := Ground.phase }, { on := 12, ground := Ground.phase }, { on := 13, ground := Ground.phase }, { on := 14, ground := Ground.phase }, { on := 15, ground := Ground.phase }, { on := 16, ground := Ground.phase }], guard := none }) (by kernel_rfl) rfl (by rfl) (fun w0 hO hX K hK => ?_)
  have hF := hO; (try simp only [Own, Item.Holds, apartI, CellsAt, Nat.reduceAdd, Nat.zero_add, List.mem_cons, List.not_mem_nil, or_false, forall_eq_or_imp, forall_eq, ne_eq, false_imp_iff, implies_true, and_true] at hF); ((try (have hc1 := hO.int_at (x := pk1) [0, 0, 0, 0, 0, 1, 2] (by first | exact List.mem_cons_self | exact List.mem_cons_of_mem _ List.mem_cons_self) lo1 (by simpa using hi1); rw [hy1] at hc1)); (try (have hc2 := hO.int_at (x := y1) [12 * (1 + pk0), 0, 769] (by first | exact List.mem_cons_self | exact List.mem_cons_of_mem _ List.mem_cons_self) ya1 (by simpa using yb1); rw [show ([12 * (1 + pk0), 0, 769] : List Int).getD y1.toNat 0 = three16 pk0 y1 from rfl] at hc2)))
  go_simp
  apply hK _ _ _ (fun W => RdIf (Nat.blt 3 3) W r (500 + 100 * 3))
  (repeat (first | (with_reducible exact hO) | (with_reducible apply Own.alloc) | (with_reducible apply Own.drew) | ((with_reducible apply Own.set_at); (focus (show _ ≤ _; omega)))))
  · first | exact trivial | exact hX | exact hX.below (below1 _) | exact RdIf.gone | exact hX.keep ((Below.refl _ _).setCell (by first | omega | (dsimp only; omega)) _)
  · exact (by first | exact XStab.true | exact XStab.rd | exact XStab.rdIf)
  · first | exact fun _ _ h => h.2 | exact fun _ _ h => h | exact fun h => absurd h (by decide)
  try simp only [upd, updI, List.map_cons, List.map_nil, eq_self, if_true, if_false, reduceIte, Nat.add_eq_left, Nat.left_eq_add, Nat.reduceEqDiff, List.set_cons_zero, List.set_cons_succ, hF]
  clear hK K hF hO
  try simp only [Act.put, List.setIfInBounds_toArray, List.set_cons_zero, List.set_cons_succ]
  refine Sim.done (by kernel_rfl) (fun w1 hO hX => ?_) _
  (try simp only [World.size_alloc1, World.size_drew, Nat.reduceAdd] at hO); (try simp only [upd, updI, List.map_cons, List.map_nil, eq_self, if_true, if_false, reduceIte, Nat.add_eq_left, Nat.left_eq_add, Nat.reduceEqDiff, List.set_cons_zero, List.set_cons_succ] at hO)
  have hF := hO; (try simp only [Own, Item.Holds, apartI, CellsAt, Nat.reduceAdd, Nat.zero_add, List.mem_cons, List.not_mem_nil, or_false, forall_eq_or_imp, forall_eq, ne_eq, false_imp_iff, implies_true, and_true] at hF)
  rotate_left 1
  have hF := hO; (try simp only [Own, Item.Holds, apartI, CellsAt, Nat.reduceAdd, Nat.zero_add, List.mem_cons, List.not_mem_nil, or_false, forall_eq_or_imp, forall_eq, ne_eq, false_imp_iff, implies_true, and_true] at hF)
  go_simp
  refine (pick_any r (500 + 100 * 1) _ _ (hX rfl) (by omega) (by decide) (by decide)).mono ?_
  rintro e wa ⟨pk1, lo1, hi1, rfl, hR4, hB4⟩
  have sb1 := seven16 pk1
  have wa1 : IntKind.i64.wrap (1 + pk1) = 1 + pk1 := IntWalk.i64_in _ (by omega)
  have wb1 : IntKind.i64.wrap (12 * (1 + pk1)) = 12 * (1 + pk1) := IntWalk.i64_in _ (by omega)
  obtain ⟨y1, hy1⟩ : ∃ y, ([0, 0, 0, 0, 0, 1, 2] : List Int).getD pk1.toNat 0 = y := ⟨_, rfl⟩
  rw [hy1] at sb1
  obtain ⟨ya1, yb1⟩ := sb1
  apply hK _ _ _ (fun W => RdIf (Nat.blt 2 3) W r (500 + 100 * 2))
  · exact Own.drawn hB4 hr0 (ne_rd16 hO (hX rfl) HU0.out (by simp [numHead16])) hO
  · exact fun _ => hR4.mono (by omega)
  · exact XStab.rdIf
  · exact fun _ _ h => h
  clear hR4 hB4
  clear hK K hF hO
  try simp only [Act.put, List.setIfInBounds_toArray, List.set_cons_zero, List.set_cons_succ]
  refine Sim.many (rs := [5, 6, 14]) (by kernel_rfl) (by decide) ?_
  refine AllS.cons (oi := { dst := some 16, op := Op.buildSlice 55 3 #[(0, Operand.tmp 15), (1, Operand.const (Value.int IntKind.i64 0)), (2, Operand.const (Value.int IntKind.i64 769))], type := 55, pos := "l20_draw.go:839", after := #[{ on := 4, ground := Ground.data }, { on := 15, ground := Ground.gcOnly Departure.lateStores }], guard := none }) rfl (by rfl) (fun w0 hO hX K hK => ?_) ?_
  rotate_left
  refine AllS.cons (oi := { dst := some 17, op := Op.buildSlice 55 7 #[(0, Operand.const (Value.int IntKind.i64 0)), (1, Operand.const (Value.int IntKind.i64 0)), (2, Operand.const (Value.int IntKind.i64 0)), (3, Operand.const (Value.int IntKind.i64 0)), (4, Operand.const (Value.int IntKind.i64 0)), (5, Operand.const (Value.int IntKind.i64 1)), (6, Operand.const (Value.int IntKind.i64 2))], type := 55, pos := "l20_draw.go:839", after := #[{ on := 15, ground := Ground.gcOnly Departure.lateStores }], guard := none }) rfl (by rfl) (fun w0 hO hX K hK => ?_) ?_
  rotate_left
  refine AllS.cons (oi := { dst := some 25, op := Op.call { callee := Callee.value (Operand.func 62), args := #[Operand.tmp 24, Operand.const (Value.int IntKind.i64 14)], argTypes := #[69, 3] }, type := 31, pos := "l20_draw.go:839", after := #[{ on := 13, ground := Ground.data }, { on := 8, ground := Ground.chain }], guard := none }) rfl (by rfl) (fun w0 hO hX K hK => ?_) ?_
  rotate_left
  exact AllS.nil
  rotate_right 3
  have hF := hO; (try simp only [Own, Item.Holds, apartI, CellsAt, Nat.reduceAdd, Nat.zero_add, List.mem_cons, List.not_mem_nil, or_false, forall_eq_or_imp, forall_eq, ne_eq, false_imp_iff, implies_true, and_true] at hF)
  go_simp
  apply hK _ _ _ (fun W => RdIf (Nat.blt 2 3) W r (500 + 100 * 2))
  (repeat (first | (with_reducible exact hO) | (with_reducible apply Own.alloc) | (with_reducible apply Own.drew) | ((with_reducible apply Own.set_at); (focus (show _ ≤ _; omega)))))
  · first | exact trivial | exact hX | exact hX.below (below1 _) | exact RdIf.gone | exact hX.keep ((Below.refl _ _).setCell (by first | omega | (dsimp only; omega)) _)
  · exact (by first | exact XStab.true | exact XStab.rd | exact XStab.rdIf)
  · first | exact fun _ _ h => h.2 | exact fun _ _ h => h | exact fun h => absurd h (by decide)
  try simp only [upd, updI, List.map_cons, List.map_nil, eq_self, if_true, if_false, reduceIte, Nat.add_eq_left, Nat.left_eq_add, Nat.reduceEqDiff, List.set_cons_zero, List.set_cons_succ, hF]
  clear hK K hF hO
  try simp only [Act.put, List.setIfInBounds_toArray, List.set_cons_zero, List.set_cons_succ]
  refine Sim.many (rs := [6, 14]) (by kernel_rfl) (by decide) ?_
  refine AllS.cons (oi := { dst := some 17, op := Op.buildSlice 55 7 #[(0, Operand.const (Value.int IntKind.i64 0)), (1, Operand.const (Value.int IntKind.i64 0)), (2, Operand.const (Value.int IntKind.i64 0)), (3, Operand.const (Value.int IntKind.i64 0)), (4, Operand.const (Value.int IntKind.i64 0)), (5, Operand.const (Value.int IntKind.i64 1)), (6, Operand.const (Value.int IntKind.i64 2))], type := 55, pos := "l20_draw.go:839", after := #[{ on := 15, ground := Ground.gcOnly Departure.lateStores }], guard := none }) rfl (by rfl) (fun w0 hO hX K hK => ?_) ?_
  rotate_left
  refine AllS.cons (oi := { dst := some 25, op := Op.call { callee := Callee.value (Operand.func 62), args := #[Operand.tmp 24, Operand.const (Value.int IntKind.i64 14)], argTypes := #[69, 3] }, type := 31, pos := "l20_draw.go:839", after := #[{ on := 13, ground := Ground.data }, { on := 8, ground := Ground.chain }], guard := none }) rfl (by rfl) (fun w0 hO hX K hK => ?_) ?_
  rotate_left
  exact AllS.nil
  rotate_right 2
  have hF := hO; (try simp only [Own, Item.Holds, apartI, CellsAt, Nat.reduceAdd, Nat.zero_add, List.mem_cons, List.not_mem_nil, or_false, forall_eq_or_imp, forall_eq, ne_eq, false_imp_iff, implies_true, and_true] at hF)
  go_simp
  apply hK _ _ _ (fun W => RdIf (Nat.blt 2 3) W r (500 + 100 * 2))
  (repeat (first | (with_reducible exact hO) | (with_reducible apply Own.alloc) | (with_reducible apply Own.drew) | ((with_reducible apply Own.set_at); (focus (show _ ≤ _; omega)))))
  · first | exact trivial | exact hX | exact hX.below (below1 _) | exact RdIf.gone | exact hX.keep ((Below.refl _ _).setCell (by first | omega | (dsimp only; omega)) _)
  · exact (by first | exact XStab.true | exact XStab.rd | exact XStab.rdIf)
  · first | exact fun _ _ h => h.2 | exact fun _ _ h => h | exact fun h => absurd h (by decide)
  try simp only [upd, updI, List.map_cons, List.map_nil, eq_self, if_true, if_false, reduceIte, Nat.add_eq_left, Nat.left_eq_add, Nat.reduceEqDiff, List.set_cons_zero, List.set_cons_succ, hF]
  clear hK K hF hO
  try simp only [Act.put, List.setIfInBounds_toArray, List.set_cons_zero, List.set_cons_succ]
  refine Sim.sP (i := 9) (d := some 20) (h := ?_)
  refine Sim.sO (i := 10) (d := some 21) (v := ?_) (hy := ?_) (h := ?_)
  rotate_left
  · first | refine Or.inl ⟨by rfl, fun w hO => ?_⟩ | (refine Or.inr ⟨by rfl, ?_⟩; with_reducible rfl)
    first | done | (have hF := hO; (try simp only [Own, Item.Holds, apartI, CellsAt, Nat.reduceAdd, Nat.zero_add, List.mem_cons, List.not_mem_nil, or_false, forall_eq_or_imp, forall_eq, ne_eq, false_imp_iff, implies_true, and_true] at hF); ((try (have hc1 := hO.int_at (x := pk1) [0, 0, 0, 0, 0, 1, 2] (by first | exact List.mem_cons_self | exact List.mem_cons_of_mem _ List.mem_cons_self) lo1 (by simpa using hi1); rw [hy1] at hc1)); (try (have hc2 := hO.int_at (x := y1) [12 * (1 + pk0), 0, 769] (by first | exact List.mem_cons_self | exact List.mem_cons_of_mem _ List.mem_cons_self) ya1 (by simpa using yb1); rw [show ([12 * (1 + pk0), 0, 769] : List Int).getD y1.toNat 0 = three16 pk0 y1 from rfl] at hc2))); refine Out.same ?_; go_simp; all_goals with_reducible rfl)
  refine Sim.sP (i := 11) (d := some 22) (h := ?_)
  refine Sim.sO (i := 12) (d := some 23) (v := ?_) (hy := ?_) (h := ?_)
  rotate_left
  · first | refine Or.inl ⟨by rfl, fun w hO => ?_⟩ | (refine Or.inr ⟨by rfl, ?_⟩; with_reducible rfl)
    first | done | (have hF := hO; (try simp only [Own, Item.Holds, apartI, CellsAt, Nat.reduceAdd, Nat.zero_add, List.mem_cons, List.not_mem_nil, or_false, forall_eq_or_imp, forall_eq, ne_eq, false_imp_iff, implies_true, and_true] at hF); ((try (have hc1 := hO.int_at (x := pk1) [0, 0, 0, 0, 0, 1, 2] (by first | exact List.mem_cons_self | exact List.mem_cons_of_mem _ List.mem_cons_self) lo1 (by simpa using hi1); rw [hy1] at hc1)); (try (have hc2 := hO.int_at (x := y1) [12 * (1 + pk0), 0, 769] (by first | exact List.mem_cons_self | exact List.mem_cons_of_mem _ List.mem_cons_self) ya1 (by simpa using yb1); rw [show ([12 * (1 + pk0), 0, 769] : List Int).getD y1.toNat 0 = three16 pk0 y1 from rfl] at hc2))); refine Out.same ?_; go_simp; all_goals with_reducible rfl)
  refine Sim.one' (i := 14) (oi := { dst := some 25, op := Op.call { callee := Callee.value (Operand.func 62), args := #[Operand.tmp 24, Operand.const (Value.int IntKind.i64 14)], argTypes := #[69, 3] }, type := 31, pos := "l20_draw.go:839", after := #[{ on := 13, ground := Ground.data }, { on := 8, ground := Ground.chain }], guard := none }) (by kernel_rfl) rfl (by rfl) (fun w0 hO hX K hK => ?_)
  have hF := hO; (try simp only [Own, Item.Holds, apartI, CellsAt, Nat.reduceAdd, Nat.zero_add, List.mem_cons, List.not_mem_nil, or_false, forall_eq_or_imp, forall_eq, ne_eq, false_imp_iff, implies_true, and_true] at hF)
  go_simp
  refine (l20Way_any r (500 + 100 * 2) _ _ (hX rfl) (by omega) (by omega) (by omega)).mono ?_
  rintro e wa ⟨st, ha, hst, hha, rfl, hR4, hB4⟩
  apply hK _ _ _ (fun W => RdIf (Nat.blt 3 3) W r (500 + 100 * 3))
  · exact Own.drawn hB4 hr0 (ne_rd16 hO (hX rfl) HU0.out (by simp [numHead16])) hO
  · exact fun _ => hR4.mono (by omega)
  · exact XStab.rdIf
  · exact fun _ _ h => h
  clear hR4 hB4
  clear hK K hF hO
  try simp only [Act.put, List.setIfInBounds_toArray, List.set_cons_zero, List.set_cons_succ]
  refine Sim.sP (i := 15) (d := some 2) (h := ?_)
  refine Sim.sP (i := 16) (d := some 3) (h := ?_)
  refine Sim.one' (i := 17) (oi := { dst := none, op := Op.store 31 (Operand.tmp 4) (Operand.tmp 25), type := 0, pos := "l20_draw.go:839", after := #[{ on := 14, ground := Ground.data }, { on := 16, ground := Ground.chain }, { on := 0, ground := Ground.phase }, { on := 1, ground := Ground.phase }, { on := 2, ground := Ground.phase }, { on := 3, ground := Ground.phase }, { on := 4, ground := Ground.phase }, { on := 5, ground := Ground.phase }, { on := 6, ground := Ground.phase }, { on := 7, ground := Ground.phase }, { on := 8, ground := Ground.phase }, { on := 9, ground := Ground.phase }, { on := 10, ground := Ground.phase }, { on := 11, ground := Ground.phase }, { on := 12, ground := Ground.phase }, { on := 13, ground := Ground.phase }, { on := 14, ground := Ground.phase }, { on := 15, ground := Ground.phase }, { on := 16, ground := Ground.phase }], guard := none }) (by kernel_rfl) rfl (by rfl) (fun w0 hO hX K hK => ?_)
  have hF := hO; (try simp only [Own, Item.Holds, apartI, CellsAt, Nat.reduceAdd, Nat.zero_add, List.mem_cons, List.not_mem_nil, or_false, forall_eq_or_imp, forall_eq, ne_eq, false_imp_iff, implies_true, and_true] at hF); ((try (have hc1 := hO.int_at (x := pk1) [0, 0, 0, 0, 0, 1, 2] (by first | exact List.mem_cons_self | exact List.mem_cons_of_mem _ List.mem_cons_self) lo1 (by simpa using hi1); rw [hy1] at hc1)); (try (have hc2 := hO.int_at (x := y1) [12 * (1 + pk0), 0, 769] (by first | exact List.mem_cons_self | exact List.mem_cons_of_mem _ List.mem_cons_self) ya1 (by simpa using yb1); rw [show ([12 * (1 + pk0), 0, 769] : List Int).getD y1.toNat 0 = three16 pk0 y1 from rfl] at hc2)))
  go_simp
  apply hK _ _ _ (fun W => RdIf (Nat.blt 3 3) W r (500 + 100 * 3))
  (repeat (first | (with_reducible exact hO) | (with_reducible apply Own.alloc) | (with_reducible apply Own.drew) | ((with_reducible apply Own.set_at); (focus (show _ ≤ _; omega)))))
  · first | exact trivial | exact hX | exact hX.below (below1 _) | exact RdIf.gone | exact hX.keep ((Below.refl _ _).setCell (by first | omega | (dsimp only; omega)) _)
  · exact (by first | exact XStab.true | exact XStab.rd | exact XStab.rdIf)
  · first | exact fun _ _ h => h.2 | exact fun _ _ h => h | exact fun h => absurd h (by decide)
  try simp only [upd, updI, List.map_cons, List.map_nil, eq_self, if_true, if_false, reduceIte, Nat.add_eq_left, Nat.left_eq_add, Nat.reduceEqDiff, List.set_cons_zero, List.set_cons_succ, hF]
  clear hK K hF hO
  try simp only [Act.put, List.setIfInBounds_toArray, List.set_cons_zero, List.set_cons_succ]
  refine Sim.done (by kernel_rfl) (fun w1 hO hX => ?_) _
  (try simp only [World.size_alloc1, World.size_drew, Nat.reduceAdd] at hO); (try simp only [upd, updI, List.map_cons, List.map_nil, eq_self, if_true, if_false, reduceIte, Nat.add_eq_left, Nat.left_eq_add, Nat.reduceEqDiff, List.set_cons_zero, List.set_cons_succ] at hO)
  have hF := hO; (try simp only [Own, Item.Holds, apartI, CellsAt, Nat.reduceAdd, Nat.zero_add, List.mem_cons, List.not_mem_nil, or_false, forall_eq_or_imp, forall_eq, ne_eq, false_imp_iff, implies_true, and_true] at hF)
  rotate_left 1
  have hF := hO; (try simp only [Own, Item.Holds, apartI, CellsAt, Nat.reduceAdd, Nat.zero_add, List.mem_cons, List.not_mem_nil, or_false, forall_eq_or_imp, forall_eq, ne_eq, false_imp_iff, implies_true, and_true] at hF)
  go_simp
  refine (l20Way_any r (500 + 100 * 2) _ _ (hX rfl) (by omega) (by omega) (by omega)).mono ?_
  rintro e wa ⟨st, ha, hst, hha, rfl, hR4, hB4⟩
  apply hK _ _ _ (fun W => RdIf (Nat.blt 3 3) W r (500 + 100 * 3))
  · exact Own.drawn hB4 hr0 (ne_rd16 hO (hX rfl) HU0.out (by simp [numHead16])) hO
  · exact fun _ => hR4.mono (by omega)
  · exact XStab.rdIf
  · exact fun _ _ h => h
  clear hR4 hB4
  clear hK K hF hO
  try simp only [Act.put, List.setIfInBounds_toArray, List.set_cons_zero, List.set_cons_succ]
  refine Sim.sP (i := 15) (d := some 2) (h := ?_)
  refine Sim.one' (i := 6) (oi := { dst := some 17, op := Op.buildSlice 55 7 #[(0, Operand.const (Value.int IntKind.i64 0)), (1, Operand.const (Value.int IntKind.i64 0)), (2, Operand.const (Value.int IntKind.i64 0)), (3, Operand.const (Value.int IntKind.i64 0)), (4, Operand.const (Value.int IntKind.i64 0)), (5, Operand.const (Value.int IntKind.i64 1)), (6, Operand.const (Value.int IntKind.i64 2))], type := 55, pos := "l20_draw.go:839", after := #[{ on := 15, ground := Ground.gcOnly Departure.lateStores }], guard := none }) (by kernel_rfl) rfl (by rfl) (fun w0 hO hX K hK => ?_)
  have hF := hO; (try simp only [Own, Item.Holds, apartI, CellsAt, Nat.reduceAdd, Nat.zero_add, List.mem_cons, List.not_mem_nil, or_false, forall_eq_or_imp, forall_eq, ne_eq, false_imp_iff, implies_true, and_true] at hF)
  go_simp
  apply hK _ _ _ (fun W => RdIf (Nat.blt 3 3) W r (500 + 100 * 3))
  (repeat (first | (with_reducible exact hO) | (with_reducible apply Own.alloc) | (with_reducible apply Own.drew) | ((with_reducible apply Own.set_at); (focus (show _ ≤ _; omega)))))
  · first | exact trivial | exact hX | exact hX.below (below1 _) | exact RdIf.gone | exact hX.keep ((Below.refl _ _).setCell (by first | omega | (dsimp only; omega)) _)
  · exact (by first | exact XStab.true | exact XStab.rd | exact XStab.rdIf)
  · first | exact fun _ _ h => h.2 | exact fun _ _ h => h | exact fun h => absurd h (by decide)
  try simp only [upd, updI, List.map_cons, List.map_nil, eq_self, if_true, if_false, reduceIte, Nat.add_eq_left, Nat.left_eq_add, Nat.reduceEqDiff, List.set_cons_zero, List.set_cons_succ, hF]
  clear hK K hF hO
  try simp only [Act.put, List.setIfInBounds_toArray, List.set_cons_zero, List.set_cons_succ]
  refine Sim.sP (i := 9) (d := some 20) (h := ?_)
  refine Sim.sO (i := 10) (d := some 21) (v := ?_) (hy := ?_) (h := ?_)
  rotate_left
  · first | refine Or.inl ⟨by rfl, fun w hO => ?_⟩ | (refine Or.inr ⟨by rfl, ?_⟩; with_reducible rfl)
    first | done | (have hF := hO; (try simp only [Own, Item.Holds, apartI, CellsAt, Nat.reduceAdd, Nat.zero_add, List.mem_cons, List.not_mem_nil, or_false, forall_eq_or_imp, forall_eq, ne_eq, false_imp_iff, implies_true, and_true] at hF); ((try (have hc1 := hO.int_at (x := pk1) [0, 0, 0, 0, 0, 1, 2] (by first | exact List.mem_cons_self | exact List.mem_cons_of_mem _ List.mem_cons_self) lo1 (by simpa using hi1); rw [hy1] at hc1)); (try (have hc2 := hO.int_at (x := y1) [12 * (1 + pk0), 0, 769] (by first | exact List.mem_cons_self | exact List.mem_cons_of_mem _ List.mem_cons_self) ya1 (by simpa using yb1); rw [show ([12 * (1 + pk0), 0, 769] : List Int).getD y1.toNat 0 = three16 pk0 y1 from rfl] at hc2))); refine Out.same ?_; go_simp; all_goals with_reducible rfl)
  refine Sim.sP (i := 11) (d := some 22) (h := ?_)
  refine Sim.sO (i := 12) (d := some 23) (v := ?_) (hy := ?_) (h := ?_)
  rotate_left
  · first | refine Or.inl ⟨by rfl, fun w hO => ?_⟩ | (refine Or.inr ⟨by rfl, ?_⟩; with_reducible rfl)
    first | done | (have hF := hO; (try simp only [Own, Item.Holds, apartI, CellsAt, Nat.reduceAdd, Nat.zero_add, List.mem_cons, List.not_mem_nil, or_false, forall_eq_or_imp, forall_eq, ne_eq, false_imp_iff, implies_true, and_true] at hF); ((try (have hc1 := hO.int_at (x := pk1) [0, 0, 0, 0, 0, 1, 2] (by first | exact List.mem_cons_self | exact List.mem_cons_of_mem _ List.mem_cons_self) lo1 (by simpa using hi1); rw [hy1] at hc1)); (try (have hc2 := hO.int_at (x := y1) [12 * (1 + pk0), 0, 769] (by first | exact List.mem_cons_self | exact List.mem_cons_of_mem _ List.mem_cons_self) ya1 (by simpa using yb1); rw [show ([12 * (1 + pk0), 0, 769] : List Int).getD y1.toNat 0 = three16 pk0 y1 from rfl] at hc2))); refine Out.same ?_; go_simp; all_goals with_reducible rfl)
  refine Sim.sP (i := 16) (d := some 3) (h := ?_)
  refine Sim.one' (i := 17) (oi := { dst := none, op := Op.store 31 (Operand.tmp 4) (Operand.tmp 25), type := 0, pos := "l20_draw.go:839", after := #[{ on := 14, ground := Ground.data }, { on := 16, ground := Ground.chain }, { on := 0, ground := Ground.phase }, { on := 1, ground := Ground.phase }, { on := 2, ground := Ground.phase }, { on := 3, ground := Ground.phase }, { on := 4, ground := Ground.phase }, { on := 5, ground := Ground.phase }, { on := 6, ground := Ground.phase }, { on := 7, ground := Ground.phase }, { on := 8, ground := Ground.phase }, { on := 9, ground := Ground.phase }, { on := 10, ground := Ground.phase }, { on := 11, ground := Ground.phase }, { on := 12, ground := Ground.phase }, { on := 13, ground := Ground.phase }, { on := 14, ground := Ground.phase }, { on := 15, ground := Ground.phase }, { on := 16, ground := Ground.phase }], guard := none }) (by kernel_rfl) rfl (by rfl) (fun w0 hO hX K hK => ?_)
  have hF := hO; (try simp only [Own, Item.Holds, apartI, CellsAt, Nat.reduceAdd, Nat.zero_add, List.mem_cons, List.not_mem_nil, or_false, forall_eq_or_imp, forall_eq, ne_eq, false_imp_iff, implies_true, and_true] at hF); ((try (have hc1 := hO.int_at (x := pk1) [0, 0, 0, 0, 0, 1, 2] (by first | exact List.mem_cons_self | exact List.mem_cons_of_mem _ List.mem_cons_self) lo1 (by simpa using hi1); rw [hy1] at hc1)); (try (have hc2 := hO.int_at (x := y1) [12 * (1 + pk0), 0, 769] (by first | exact List.mem_cons_self | exact List.mem_cons_of_mem _ List.mem_cons_self) ya1 (by simpa using yb1); rw [show ([12 * (1 + pk0), 0, 769] : List Int).getD y1.toNat 0 = three16 pk0 y1 from rfl] at hc2)))
  go_simp
  apply hK _ _ _ (fun W => RdIf (Nat.blt 3 3) W r (500 + 100 * 3))
  (repeat (first | (with_reducible exact hO) | (with_reducible apply Own.alloc) | (with_reducible apply Own.drew) | ((with_reducible apply Own.set_at); (focus (show _ ≤ _; omega)))))
  · first | exact trivial | exact hX | exact hX.below (below1 _) | exact RdIf.gone | exact hX.keep ((Below.refl _ _).setCell (by first | omega | (dsimp only; omega)) _)
  · exact (by first | exact XStab.true | exact XStab.rd | exact XStab.rdIf)
  · first | exact fun _ _ h => h.2 | exact fun _ _ h => h | exact fun h => absurd h (by decide)
  try simp only [upd, updI, List.map_cons, List.map_nil, eq_self, if_true, if_false, reduceIte, Nat.add_eq_left, Nat.left_eq_add, Nat.reduceEqDiff, List.set_cons_zero, List.set_cons_succ, hF]
  clear hK K hF hO
  try simp only [Act.put, List.setIfInBounds_toArray, List.set_cons_zero, List.set_cons_succ]
  refine Sim.done (by kernel_rfl) (fun w1 hO hX => ?_) _
  (try simp only [World.size_alloc1, World.size_drew, Nat.reduceAdd] at hO); (try simp only [upd, updI, List.map_cons, List.map_nil, eq_self, if_true, if_false, reduceIte, Nat.add_eq_left, Nat.left_eq_add, Nat.reduceEqDiff, List.set_cons_zero, List.set_cons_succ] at hO)
  have hF := hO; (try simp only [Own, Item.Holds, apartI, CellsAt, Nat.reduceAdd, Nat.zero_add, List.mem_cons, List.not_mem_nil, or_false, forall_eq_or_imp, forall_eq, ne_eq, false_imp_iff, implies_true, and_true] at hF)
  rotate_left 1
  have hF := hO; (try simp only [Own, Item.Holds, apartI, CellsAt, Nat.reduceAdd, Nat.zero_add, List.mem_cons, List.not_mem_nil, or_false, forall_eq_or_imp, forall_eq, ne_eq, false_imp_iff, implies_true, and_true] at hF)
  go_simp
  apply hK _ _ _ (fun W => RdIf (Nat.blt 2 3) W r (500 + 100 * 2))
  (repeat (first | (with_reducible exact hO) | (with_reducible apply Own.alloc) | (with_reducible apply Own.drew) | ((with_reducible apply Own.set_at); (focus (show _ ≤ _; omega)))))
  · first | exact trivial | exact hX | exact hX.below (below1 _) | exact RdIf.gone | exact hX.keep ((Below.refl _ _).setCell (by first | omega | (dsimp only; omega)) _)
  · exact (by first | exact XStab.true | exact XStab.rd | exact XStab.rdIf)
  · first | exact fun _ _ h => h.2 | exact fun _ _ h => h | exact fun h => absurd h (by decide)
  try simp only [upd, updI, List.map_cons, List.map_nil, eq_self, if_true, if_false, reduceIte, Nat.add_eq_left, Nat.left_eq_add, Nat.reduceEqDiff, List.set_cons_zero, List.set_cons_succ, hF]
  clear hK K hF hO
  try simp only [Act.put, List.setIfInBounds_toArray, List.set_cons_zero, List.set_cons_succ]
  refine Sim.sP (i := 9) (d := some 20) (h := ?_)
  refine Sim.sO (i := 10) (d := some 21) (v := ?_) (hy := ?_) (h := ?_)
  rotate_left
  · first | refine Or.inl ⟨by rfl, fun w hO => ?_⟩ | (refine Or.inr ⟨by rfl, ?_⟩; with_reducible rfl)
    first | done | (have hF := hO; (try simp only [Own, Item.Holds, apartI, CellsAt, Nat.reduceAdd, Nat.zero_add, List.mem_cons, List.not_mem_nil, or_false, forall_eq_or_imp, forall_eq, ne_eq, false_imp_iff, implies_true, and_true] at hF); ((try (have hc1 := hO.int_at (x := pk1) [0, 0, 0, 0, 0, 1, 2] (by first | exact List.mem_cons_self | exact List.mem_cons_of_mem _ List.mem_cons_self) lo1 (by simpa using hi1); rw [hy1] at hc1)); (try (have hc2 := hO.int_at (x := y1) [12 * (1 + pk0), 0, 769] (by first | exact List.mem_cons_self | exact List.mem_cons_of_mem _ List.mem_cons_self) ya1 (by simpa using yb1); rw [show ([12 * (1 + pk0), 0, 769] : List Int).getD y1.toNat 0 = three16 pk0 y1 from rfl] at hc2))); refine Out.same ?_; go_simp; all_goals with_reducible rfl)
  refine Sim.many (rs := [5, 14]) (by kernel_rfl) (by decide) ?_
  refine AllS.cons (oi := { dst := some 16, op := Op.buildSlice 55 3 #[(0, Operand.tmp 15), (1, Operand.const (Value.int IntKind.i64 0)), (2, Operand.const (Value.int IntKind.i64 769))], type := 55, pos := "l20_draw.go:839", after := #[{ on := 4, ground := Ground.data }, { on := 15, ground := Ground.gcOnly Departure.lateStores }], guard := none }) rfl (by rfl) (fun w0 hO hX K hK => ?_) ?_
  rotate_left
  refine AllS.cons (oi := { dst := some 25, op := Op.call { callee := Callee.value (Operand.func 62), args := #[Operand.tmp 24, Operand.const (Value.int IntKind.i64 14)], argTypes := #[69, 3] }, type := 31, pos := "l20_draw.go:839", after := #[{ on := 13, ground := Ground.data }, { on := 8, ground := Ground.chain }], guard := none }) rfl (by rfl) (fun w0 hO hX K hK => ?_) ?_
  rotate_left
  exact AllS.nil
  rotate_right 2
  have hF := hO; (try simp only [Own, Item.Holds, apartI, CellsAt, Nat.reduceAdd, Nat.zero_add, List.mem_cons, List.not_mem_nil, or_false, forall_eq_or_imp, forall_eq, ne_eq, false_imp_iff, implies_true, and_true] at hF)
  go_simp
  apply hK _ _ _ (fun W => RdIf (Nat.blt 2 3) W r (500 + 100 * 2))
  (repeat (first | (with_reducible exact hO) | (with_reducible apply Own.alloc) | (with_reducible apply Own.drew) | ((with_reducible apply Own.set_at); (focus (show _ ≤ _; omega)))))
  · first | exact trivial | exact hX | exact hX.below (below1 _) | exact RdIf.gone | exact hX.keep ((Below.refl _ _).setCell (by first | omega | (dsimp only; omega)) _)
  · exact (by first | exact XStab.true | exact XStab.rd | exact XStab.rdIf)
  · first | exact fun _ _ h => h.2 | exact fun _ _ h => h | exact fun h => absurd h (by decide)
  try simp only [upd, updI, List.map_cons, List.map_nil, eq_self, if_true, if_false, reduceIte, Nat.add_eq_left, Nat.left_eq_add, Nat.reduceEqDiff, List.set_cons_zero, List.set_cons_succ, hF]
  clear hK K hF hO
  try simp only [Act.put, List.setIfInBounds_toArray, List.set_cons_zero, List.set_cons_succ]
  refine Sim.sP (i := 11) (d := some 22) (h := ?_)
  refine Sim.sO (i := 12) (d := some 23) (v := ?_) (hy := ?_) (h := ?_)
  rotate_left
  · first | refine Or.inl ⟨by rfl, fun w hO => ?_⟩ | (refine Or.inr ⟨by rfl, ?_⟩; with_reducible rfl)
    first | done | (have hF := hO; (try simp only [Own, Item.Holds, apartI, CellsAt, Nat.reduceAdd, Nat.zero_add, List.mem_cons, List.not_mem_nil, or_false, forall_eq_or_imp, forall_eq, ne_eq, false_imp_iff, implies_true, and_true] at hF); ((try (have hc1 := hO.int_at (x := pk1) [0, 0, 0, 0, 0, 1, 2] (by first | exact List.mem_cons_self | exact List.mem_cons_of_mem _ List.mem_cons_self) lo1 (by simpa using hi1); rw [hy1] at hc1)); (try (have hc2 := hO.int_at (x := y1) [12 * (1 + pk0), 0, 769] (by first | exact List.mem_cons_self | exact List.mem_cons_of_mem _ List.mem_cons_self) ya1 (by simpa using yb1); rw [show ([12 * (1 + pk0), 0, 769] : List Int).getD y1.toNat 0 = three16 pk0 y1 from rfl] at hc2))); refine Out.same ?_; go_simp; all_goals with_reducible rfl)
  refine Sim.one' (i := 14) (oi := { dst := some 25, op := Op.call { callee := Callee.value (Operand.func 62), args := #[Operand.tmp 24, Operand.const (Value.int IntKind.i64 14)], argTypes := #[69, 3] }, type := 31, pos := "l20_draw.go:839", after := #[{ on := 13, ground := Ground.data }, { on := 8, ground := Ground.chain }], guard := none }) (by kernel_rfl) rfl (by rfl) (fun w0 hO hX K hK => ?_)
  have hF := hO; (try simp only [Own, Item.Holds, apartI, CellsAt, Nat.reduceAdd, Nat.zero_add, List.mem_cons, List.not_mem_nil, or_false, forall_eq_or_imp, forall_eq, ne_eq, false_imp_iff, implies_true, and_true] at hF)
  go_simp
  refine (l20Way_any r (500 + 100 * 2) _ _ (hX rfl) (by omega) (by omega) (by omega)).mono ?_
  rintro e wa ⟨st, ha, hst, hha, rfl, hR4, hB4⟩
  apply hK _ _ _ (fun W => RdIf (Nat.blt 3 3) W r (500 + 100 * 3))
  · exact Own.drawn hB4 hr0 (ne_rd16 hO (hX rfl) HU0.out (by simp [numHead16])) hO
  · exact fun _ => hR4.mono (by omega)
  · exact XStab.rdIf
  · exact fun _ _ h => h
  clear hR4 hB4
  clear hK K hF hO
  try simp only [Act.put, List.setIfInBounds_toArray, List.set_cons_zero, List.set_cons_succ]
  refine Sim.sP (i := 15) (d := some 2) (h := ?_)
  refine Sim.sP (i := 16) (d := some 3) (h := ?_)
  refine Sim.one' (i := 17) (oi := { dst := none, op := Op.store 31 (Operand.tmp 4) (Operand.tmp 25), type := 0, pos := "l20_draw.go:839", after := #[{ on := 14, ground := Ground.data }, { on := 16, ground := Ground.chain }, { on := 0, ground := Ground.phase }, { on := 1, ground := Ground.phase }, { on := 2, ground := Ground.phase }, { on := 3, ground := Ground.phase }, { on := 4, ground := Ground.phase }, { on := 5, ground := Ground.phase }, { on := 6, ground := Ground.phase }, { on := 7, ground := Ground.phase }, { on := 8, ground := Ground.phase }, { on := 9, ground := Ground.phase }, { on := 10, ground := Ground.phase }, { on := 11, ground := Ground.phase }, { on := 12, ground := Ground.phase }, { on := 13, ground := Ground.phase }, { on := 14, ground := Ground.phase }, { on := 15, ground := Ground.phase }, { on := 16, ground := Ground.phase }], guard := none }) (by kernel_rfl) rfl (by rfl) (fun w0 hO hX K hK => ?_)
  have hF := hO; (try simp only [Own, Item.Holds, apartI, CellsAt, Nat.reduceAdd, Nat.zero_add, List.mem_cons, List.not_mem_nil, or_false, forall_eq_or_imp, forall_eq, ne_eq, false_imp_iff, implies_true, and_true] at hF); ((try (have hc1 := hO.int_at (x := pk1) [0, 0, 0, 0, 0, 1, 2] (by first | exact List.mem_cons_self | exact List.mem_cons_of_mem _ List.mem_cons_self) lo1 (by simpa using hi1); rw [hy1] at hc1)); (try (have hc2 := hO.int_at (x := y1) [12 * (1 + pk0), 0, 769] (by first | exact List.mem_cons_self | exact List.mem_cons_of_mem _ List.mem_cons_self) ya1 (by simpa using yb1); rw [show ([12 * (1 + pk0), 0, 769] : List Int).getD y1.toNat 0 = three16 pk0 y1 from rfl] at hc2)))
  go_simp
  apply hK _ _ _ (fun W => RdIf (Nat.blt 3 3) W r (500 + 100 * 3))
  (repeat (first | (with_reducible exact hO) | (with_reducible apply Own.alloc) | (with_reducible apply Own.drew) | ((with_reducible apply Own.set_at); (focus (show _ ≤ _; omega)))))
  · first | exact trivial | exact hX | exact hX.below (below1 _) | exact RdIf.gone | exact hX.keep ((Below.refl _ _).setCell (by first | omega | (dsimp only; omega)) _)
  · exact (by first | exact XStab.true | exact XStab.rd | exact XStab.rdIf)
  · first | exact fun _ _ h => h.2 | exact fun _ _ h => h | exact fun h => absurd h (by decide)
  try simp only [upd, updI, List.map_cons, List.map_nil, eq_self, if_true, if_false, reduceIte, Nat.add_eq_left, Nat.left_eq_add, Nat.reduceEqDiff, List.set_cons_zero, List.set_cons_succ, hF]
  clear hK K hF hO
  try simp only [Act.put, List.setIfInBounds_toArray, List.set_cons_zero, List.set_cons_succ]
  refine Sim.done (by kernel_rfl) (fun w1 hO hX => ?_) _
  (try simp only [World.size_alloc1, World.size_drew, Nat.reduceAdd] at hO); (try simp only [upd, updI, List.map_cons, List.map_nil, eq_self, if_true, if_false, reduceIte, Nat.add_eq_left, Nat.left_eq_add, Nat.reduceEqDiff, List.set_cons_zero, List.set_cons_succ] at hO)
  have hF := hO; (try simp only [Own, Item.Holds, apartI, CellsAt, Nat.reduceAdd, Nat.zero_add, List.mem_cons, List.not_mem_nil, or_false, forall_eq_or_imp, forall_eq, ne_eq, false_imp_iff, implies_true, and_true] at hF)
  rotate_left 1
  have hF := hO; (try simp only [Own, Item.Holds, apartI, CellsAt, Nat.reduceAdd, Nat.zero_add, List.mem_cons, List.not_mem_nil, or_false, forall_eq_or_imp, forall_eq, ne_eq, false_imp_iff, implies_true, and_true] at hF)
  go_simp
  refine (l20Way_any r (500 + 100 * 2) _ _ (hX rfl) (by omega) (by omega) (by omega)).mono ?_
  rintro e wa ⟨st, ha, hst, hha, rfl, hR4, hB4⟩
  apply hK _ _ _ (fun W => RdIf (Nat.blt 3 3) W r (500 + 100 * 3))
  · exact Own.drawn hB4 hr0 (ne_rd16 hO (hX rfl) HU0.out (by simp [numHead16])) hO
  · exact fun _ => hR4.mono (by omega)
  · exact XStab.rdIf
  · exact fun _ _ h => h
  clear hR4 hB4
  clear hK K hF hO
  try simp only [Act.put, List.setIfInBounds_toArray, List.set_cons_zero, List.set_cons_succ]
  refine Sim.sP (i := 15) (d := some 2) (h := ?_)
  refine Sim.one' (i := 5) (oi := { dst := some 16, op := Op.buildSlice 55 3 #[(0, Operand.tmp 15), (1, Operand.const (Value.int IntKind.i64 0)), (2, Operand.const (Value.int IntKind.i64 769))], type := 55, pos := "l20_draw.go:839", after := #[{ on := 4, ground := Ground.data }, { on := 15, ground := Ground.gcOnly Departure.lateStores }], guard := none }) (by kernel_rfl) rfl (by rfl) (fun w0 hO hX K hK => ?_)
  have hF := hO; (try simp only [Own, Item.Holds, apartI, CellsAt, Nat.reduceAdd, Nat.zero_add, List.mem_cons, List.not_mem_nil, or_false, forall_eq_or_imp, forall_eq, ne_eq, false_imp_iff, implies_true, and_true] at hF)
  go_simp
  apply hK _ _ _ (fun W => RdIf (Nat.blt 3 3) W r (500 + 100 * 3))
  (repeat (first | (with_reducible exact hO) | (with_reducible apply Own.alloc) | (with_reducible apply Own.drew) | ((with_reducible apply Own.set_at); (focus (show _ ≤ _; omega)))))
  · first | exact trivial | exact hX | exact hX.below (below1 _) | exact RdIf.gone | exact hX.keep ((Below.refl _ _).setCell (by first | omega | (dsimp only; omega)) _)
  · exact (by first | exact XStab.true | exact XStab.rd | exact XStab.rdIf)
  · first | exact fun _ _ h => h.2 | exact fun _ _ h => h | exact fun h => absurd h (by decide)
  try simp only [upd, updI, List.map_cons, List.map_nil, eq_self, if_true, if_false, reduceIte, Nat.add_eq_left, Nat.left_eq_add, Nat.reduceEqDiff, List.set_cons_zero, List.set_cons_succ, hF]
  clear hK K hF hO
  try simp only [Act.put, List.setIfInBounds_toArray, List.set_cons_zero, List.set_cons_succ]
  refine Sim.sP (i := 11) (d := some 22) (h := ?_)
  refine Sim.sO (i := 12) (d := some 23) (v := ?_) (hy := ?_) (h := ?_)
  rotate_left
  · first | refine Or.inl ⟨by rfl, fun w hO => ?_⟩ | (refine Or.inr ⟨by rfl, ?_⟩; with_reducible rfl)
    first | done | (have hF := hO; (try simp only [Own, Item.Holds, apartI, CellsAt, Nat.reduceAdd, Nat.zero_add, List.mem_cons, List.not_mem_nil, or_false, forall_eq_or_imp, forall_eq, ne_eq, false_imp_iff, implies_true, and_true] at hF); ((try (have hc1 := hO.int_at (x := pk1) [0, 0, 0, 0, 0, 1, 2] (by first | exact List.mem_cons_self | exact List.mem_cons_of_mem _ List.mem_cons_self) lo1 (by simpa using hi1); rw [hy1] at hc1)); (try (have hc2 := hO.int_at (x := y1) [12 * (1 + pk0), 0, 769] (by first | exact List.mem_cons_self | exact List.mem_cons_of_mem _ List.mem_cons_self) ya1 (by simpa using yb1); rw [show ([12 * (1 + pk0), 0, 769] : List Int).getD y1.toNat 0 = three16 pk0 y1 from rfl] at hc2))); refine Out.same ?_; go_simp; all_goals with_reducible rfl)
  refine Sim.sP (i := 16) (d := some 3) (h := ?_)
  refine Sim.one' (i := 17) (oi := { dst := none, op := Op.store 31 (Operand.tmp 4) (Operand.tmp 25), type := 0, pos := "l20_draw.go:839", after := #[{ on := 14, ground := Ground.data }, { on := 16, ground := Ground.chain }, { on := 0, ground := Ground.phase }, { on := 1, ground := Ground.phase }, { on := 2, ground := Ground.phase }, { on := 3, ground := Ground.phase }, { on := 4, ground := Ground.phase }, { on := 5, ground := Ground.phase }, { on := 6, ground := Ground.phase }, { on := 7, ground := Ground.phase }, { on := 8, ground := Ground.phase }, { on := 9, ground := Ground.phase }, { on := 10, ground := Ground.phase }, { on := 11, ground := Ground.phase }, { on := 12, ground := Ground.phase }, { on := 13, ground := Ground.phase }, { on := 14, ground := Ground.phase }, { on := 15, ground := Ground.phase }, { on := 16, ground := Ground.phase }], guard := none }) (by kernel_rfl) rfl (by rfl) (fun w0 hO hX K hK => ?_)
  have hF := hO; (try simp only [Own, Item.Holds, apartI, CellsAt, Nat.reduceAdd, Nat.zero_add, List.mem_cons, List.not_mem_nil, or_false, forall_eq_or_imp, forall_eq, ne_eq, false_imp_iff, implies_true, and_true] at hF); ((try (have hc1 := hO.int_at (x := pk1) [0, 0, 0, 0, 0, 1, 2] (by first | exact List.mem_cons_self | exact List.mem_cons_of_mem _ List.mem_cons_self) lo1 (by simpa using hi1); rw [hy1] at hc1)); (try (have hc2 := hO.int_at (x := y1) [12 * (1 + pk0), 0, 769] (by first | exact List.mem_cons_self | exact List.mem_cons_of_mem _ List.mem_cons_self) ya1 (by simpa using yb1); rw [show ([12 * (1 + pk0), 0, 769] : List Int).getD y1.toNat 0 = three16 pk0 y1 from rfl] at hc2)))
  go_simp
  apply hK _ _ _ (fun W => RdIf (Nat.blt 3 3) W r (500 + 100 * 3))
  (repeat (first | (with_reducible exact hO) | (with_reducible apply Own.alloc) | (with_reducible apply Own.drew) | ((with_reducible apply Own.set_at); (focus (show _ ≤ _; omega)))))
  · first | exact trivial | exact hX | exact hX.below (below1 _) | exact RdIf.gone | exact hX.keep ((Below.refl _ _).setCell (by first | omega | (dsimp only; omega)) _)
  · exact (by first | exact XStab.true | exact XStab.rd | exact XStab.rdIf)
  · first | exact fun _ _ h => h.2 | exact fun _ _ h => h | exact fun h => absurd h (by decide)
  try simp only [upd, updI, List.map_cons, List.map_nil, eq_self, if_true, if_false, reduceIte, Nat.add_eq_left, Nat.left_eq_add, Nat.reduceEqDiff, List.set_cons_zero, List.set_cons_succ, hF]
  clear hK K hF hO
  try simp only [Act.put, List.setIfInBounds_toArray, List.set_cons_zero, List.set_cons_succ]
  refine Sim.done (by kernel_rfl) (fun w1 hO hX => ?_) _
  (try simp only [World.size_alloc1, World.size_drew, Nat.reduceAdd] at hO); (try simp only [upd, updI, List.map_cons, List.map_nil, eq_self, if_true, if_false, reduceIte, Nat.add_eq_left, Nat.left_eq_add, Nat.reduceEqDiff, List.set_cons_zero, List.set_cons_succ] at hO)
  have hF := hO; (try simp only [Own, Item.Holds, apartI, CellsAt, Nat.reduceAdd, Nat.zero_add, List.mem_cons, List.not_mem_nil, or_false, forall_eq_or_imp, forall_eq, ne_eq, false_imp_iff, implies_true, and_true] at hF)
  rotate_left 1
  have hF := hO; (try simp only [Own, Item.Holds, apartI, CellsAt, Nat.reduceAdd, Nat.zero_add, List.mem_cons, List.not_mem_nil, or_false, forall_eq_or_imp, forall_eq, ne_eq, false_imp_iff, implies_true, and_true] at hF)
  go_simp
  refine (l20Way_any r (500 + 100 * 2) _ _ (hX rfl) (by omega) (by omega) (by omega)).mono ?_
  rintro e wa ⟨st, ha, hst, hha, rfl, hR4, hB4⟩
  apply hK _ _ _ (fun W => RdIf (Nat.blt 3 3) W r (500 + 100 * 3))
  · exact Own.drawn hB4 hr0 (ne_rd16 hO (hX rfl) HU0.out (by simp [numHead16])) hO
  · exact fun _ => hR4.mono (by omega)
  · exact XStab.rdIf
  · exact fun _ _ h => h
  clear hR4 hB4
  clear hK K hF hO
  try simp only [Act.put, List.setIfInBounds_toArray, List.set_cons_zero, List.set_cons_succ]
  refine Sim.sP (i := 15) (d := some 2) (h := ?_)
  refine Sim.many (rs := [5, 6]) (by kernel_rfl) (by decide) ?_
  refine AllS.cons (oi := { dst := some 16, op := Op.buildSlice 55 3 #[(0, Operand.tmp 15), (1, Operand.const (Value.int IntKind.i64 0)), (2, Operand.const (Value.int IntKind.i64 769))], type := 55, pos := "l20_draw.go:839", after := #[{ on := 4, ground := Ground.data }, { on := 15, ground := Ground.gcOnly Departure.lateStores }], guard := none }) rfl (by rfl) (fun w0 hO hX K hK => ?_) ?_
  rotate_left
  refine AllS.cons (oi := { dst := some 17, op := Op.buildSlice 55 7 #[(0, Operand.const (Value.int IntKind.i64 0)), (1, Operand.const (Value.int IntKind.i64 0)), (2, Operand.const (Value.int IntKind.i64 0)), (3, Operand.const (Value.int IntKind.i64 0)), (4, Operand.const (Value.int IntKind.i64 0)), (5, Operand.const (Value.int IntKind.i64 1)), (6, Operand.const (Value.int IntKind.i64 2))], type := 55, pos := "l20_draw.go:839", after := #[{ on := 15, ground := Ground.gcOnly Departure.lateStores }], guard := none }) rfl (by rfl) (fun w0 hO hX K hK => ?_) ?_
  rotate_left
  exact AllS.nil
  rotate_right 2
  have hF := hO; (try simp only [Own, Item.Holds, apartI, CellsAt, Nat.reduceAdd, Nat.zero_add, List.mem_cons, List.not_mem_nil, or_false, forall_eq_or_imp, forall_eq, ne_eq, false_imp_iff, implies_true, and_true] at hF)
  go_simp
  apply hK _ _ _ (fun W => RdIf (Nat.blt 3 3) W r (500 + 100 * 3))
  (repeat (first | (with_reducible exact hO) | (with_reducible apply Own.alloc) | (with_reducible apply Own.drew) | ((with_reducible apply Own.set_at); (focus (show _ ≤ _; omega)))))
  · first | exact trivial | exact hX | exact hX.below (below1 _) | exact RdIf.gone | exact hX.keep ((Below.refl _ _).setCell (by first | omega | (dsimp only; omega)) _)
  · exact (by first | exact XStab.true | exact XStab.rd | exact XStab.rdIf)
  · first | exact fun _ _ h => h.2 | exact fun _ _ h => h | exact fun h => absurd h (by decide)
  try simp only [upd, updI, List.map_cons, List.map_nil, eq_self, if_true, if_false, reduceIte, Nat.add_eq_left, Nat.left_eq_add, Nat.reduceEqDiff, List.set_cons_zero, List.set_cons_succ, hF]
  clear hK K hF hO
  try simp only [Act.put, List.setIfInBounds_toArray, List.set_cons_zero, List.set_cons_succ]
  refine Sim.one' (i := 6) (oi := { dst := some 17, op := Op.buildSlice 55 7 #[(0, Operand.const (Value.int IntKind.i64 0)), (1, Operand.const (Value.int IntKind.i64 0)), (2, Operand.const (Value.int IntKind.i64 0)), (3, Operand.const (Value.int IntKind.i64 0)), (4, Operand.const (Value.int IntKind.i64 0)), (5, Operand.const (Value.int IntKind.i64 1)), (6, Operand.const (Value.int IntKind.i64 2))], type := 55, pos := "l20_draw.go:839", after := #[{ on := 15, ground := Ground.gcOnly Departure.lateStores }], guard := none }) (by kernel_rfl) rfl (by rfl) (fun w0 hO hX K hK => ?_)
  have hF := hO; (try simp only [Own, Item.Holds, apartI, CellsAt, Nat.reduceAdd, Nat.zero_add, List.mem_cons, List.not_mem_nil, or_false, forall_eq_or_imp, forall_eq, ne_eq, false_imp_iff, implies_true, and_true] at hF)
  go_simp
  apply hK _ _ _ (fun W => RdIf (Nat.blt 3 3) W r (500 + 100 * 3))
  (repeat (first | (with_reducible exact hO) | (with_reducible apply Own.alloc) | (with_reducible apply Own.drew) | ((with_reducible apply Own.set_at); (focus (show _ ≤ _; omega)))))
  · first | exact trivial | exact hX | exact hX.below (below1 _) | exact RdIf.gone | exact hX.keep ((Below.refl _ _).setCell (by first | omega | (dsimp only; omega)) _)
  · exact (by first | exact XStab.true | exact XStab.rd | exact XStab.rdIf)
  · first | exact fun _ _ h => h.2 | exact fun _ _ h => h | exact fun h => absurd h (by decide)
  try simp only [upd, updI, List.map_cons, List.map_nil, eq_self, if_true, if_false, reduceIte, Nat.add_eq_left, Nat.left_eq_add, Nat.reduceEqDiff, List.set_cons_zero, List.set_cons_succ, hF]
  clear hK K hF hO
  try simp only [Act.put, List.setIfInBounds_toArray, List.set_cons_zero, List.set_cons_succ]
  refine Sim.sP (i := 9) (d := some 20) (h := ?_)
  refine Sim.sO (i := 10) (d := some 21) (v := ?_) (hy := ?_) (h := ?_)
  rotate_left
  · first | refine Or.inl ⟨by rfl, fun w hO => ?_⟩ | (refine Or.inr ⟨by rfl, ?_⟩; with_reducible rfl)
    first | done | (have hF := hO; (try simp only [Own, Item.Holds, apartI, CellsAt, Nat.reduceAdd, Nat.zero_add, List.mem_cons, List.not_mem_nil, or_false, forall_eq_or_imp, forall_eq, ne_eq, false_imp_iff, implies_true, and_true] at hF); ((try (have hc1 := hO.int_at (x := pk1) [0, 0, 0, 0, 0, 1, 2] (by first | exact List.mem_cons_self | exact List.mem_cons_of_mem _ List.mem_cons_self) lo1 (by simpa using hi1); rw [hy1] at hc1)); (try (have hc2 := hO.int_at (x := y1) [12 * (1 + pk0), 0, 769] (by first | exact List.mem_cons_self | exact List.mem_cons_of_mem _ List.mem_cons_self) ya1 (by simpa using yb1); rw [show ([12 * (1 + pk0), 0, 769] : List Int).getD y1.toNat 0 = three16 pk0 y1 from rfl] at hc2))); refine Out.same ?_; go_simp; all_goals with_reducible rfl)
  refine Sim.sP (i := 11) (d := some 22) (h := ?_)
  refine Sim.sO (i := 12) (d := some 23) (v := ?_) (hy := ?_) (h := ?_)
  rotate_left
  · first | refine Or.inl ⟨by rfl, fun w hO => ?_⟩ | (refine Or.inr ⟨by rfl, ?_⟩; with_reducible rfl)
    first | done | (have hF := hO; (try simp only [Own, Item.Holds, apartI, CellsAt, Nat.reduceAdd, Nat.zero_add, List.mem_cons, List.not_mem_nil, or_false, forall_eq_or_imp, forall_eq, ne_eq, false_imp_iff, implies_true, and_true] at hF); ((try (have hc1 := hO.int_at (x := pk1) [0, 0, 0, 0, 0, 1, 2] (by first | exact List.mem_cons_self | exact List.mem_cons_of_mem _ List.mem_cons_self) lo1 (by simpa using hi1); rw [hy1] at hc1)); (try (have hc2 := hO.int_at (x := y1) [12 * (1 + pk0), 0, 769] (by first | exact List.mem_cons_self | exact List.mem_cons_of_mem _ List.mem_cons_self) ya1 (by simpa using yb1); rw [show ([12 * (1 + pk0), 0, 769] : List Int).getD y1.toNat 0 = three16 pk0 y1 from rfl] at hc2))); refine Out.same ?_; go_simp; all_goals with_reducible rfl)
  refine Sim.sP (i := 16) (d := some 3) (h := ?_)
  refine Sim.one' (i := 17) (oi := { dst := none, op := Op.store 31 (Operand.tmp 4) (Operand.tmp 25), type := 0, pos := "l20_draw.go:839", after := #[{ on := 14, ground := Ground.data }, { on := 16, ground := Ground.chain }, { on := 0, ground := Ground.phase }, { on := 1, ground := Ground.phase }, { on := 2, ground := Ground.phase }, { on := 3, ground := Ground.phase }, { on := 4, ground := Ground.phase }, { on := 5, ground := Ground.phase }, { on := 6, ground := Ground.phase }, { on := 7, ground := Ground.phase }, { on := 8, ground := Ground.phase }, { on := 9, ground := Ground.phase }, { on := 10, ground := Ground.phase }, { on := 11, ground := Ground.phase }, { on := 12, ground := Ground.phase }, { on := 13, ground := Ground.phase }, { on := 14, ground := Ground.phase }, { on := 15, ground := Ground.phase }, { on := 16, ground := Ground.phase }], guard := none }) (by kernel_rfl) rfl (by rfl) (fun w0 hO hX K hK => ?_)
  have hF := hO; (try simp only [Own, Item.Holds, apartI, CellsAt, Nat.reduceAdd, Nat.zero_add, List.mem_cons, List.not_mem_nil, or_false, forall_eq_or_imp, forall_eq, ne_eq, false_imp_iff, implies_true, and_true] at hF); ((try (have hc1 := hO.int_at (x := pk1) [0, 0, 0, 0, 0, 1, 2] (by first | exact List.mem_cons_self | exact List.mem_cons_of_mem _ List.mem_cons_self) lo1 (by simpa using hi1); rw [hy1] at hc1)); (try (have hc2 := hO.int_at (x := y1) [12 * (1 + pk0), 0, 769] (by first | exact List.mem_cons_self | exact List.mem_cons_of_mem _ List.mem_cons_self) ya1 (by simpa using yb1); rw [show ([12 * (1 + pk0), 0, 769] : List Int).getD y1.toNat 0 = three16 pk0 y1 from rfl] at hc2)))
  go_simp
  apply hK _ _ _ (fun W => RdIf (Nat.blt 3 3) W r (500 + 100 * 3))
  (repeat (first | (with_reducible exact hO) | (with_reducible apply Own.alloc) | (with_reducible apply Own.drew) | ((with_reducible apply Own.set_at); (focus (show _ ≤ _; omega)))))
  · first | exact trivial | exact hX | exact hX.below (below1 _) | exact RdIf.gone | exact hX.keep ((Below.refl _ _).setCell (by first | omega | (dsimp only; omega)) _)
  · exact (by first | exact XStab.true | exact XStab.rd | exact XStab.rdIf)
  · first | exact fun _ _ h => h.2 | exact fun _ _ h => h | exact fun h => absurd h (by decide)
  try simp only [upd, updI, List.map_cons, List.map_nil, eq_self, if_true, if_false, reduceIte, Nat.add_eq_left, Nat.left_eq_add, Nat.reduceEqDiff, List.set_cons_zero, List.set_cons_succ, hF]
  clear hK K hF hO
  try simp only [Act.put, List.setIfInBounds_toArray, List.set_cons_zero, List.set_cons_succ]
  refine Sim.done (by kernel_rfl) (fun w1 hO hX => ?_) _
  (try simp only [World.size_alloc1, World.size_drew, Nat.reduceAdd] at hO); (try simp only [upd, updI, List.map_cons, List.map_nil, eq_self, if_true, if_false, reduceIte, Nat.add_eq_left, Nat.left_eq_add, Nat.reduceEqDiff, List.set_cons_zero, List.set_cons_succ] at hO)
  have hF := hO; (try simp only [Own, Item.Holds, apartI, CellsAt, Nat.reduceAdd, Nat.zero_add, List.mem_cons, List.not_mem_nil, or_false, forall_eq_or_imp, forall_eq, ne_eq, false_imp_iff, implies_true, and_true] at hF)
  rotate_left 1
  have hF := hO; (try simp only [Own, Item.Holds, apartI, CellsAt, Nat.reduceAdd, Nat.zero_add, List.mem_cons, List.not_mem_nil, or_false, forall_eq_or_imp, forall_eq, ne_eq, false_imp_iff, implies_true, and_true] at hF)
  go_simp
  apply hK _ _ _ (fun W => RdIf (Nat.blt 3 3) W r (500 + 100 * 3))
  (repeat (first | (with_reducible exact hO) | (with_reducible apply Own.alloc) | (with_reducible apply Own.drew) | ((with_reducible apply Own.set_at); (focus (show _ ≤ _; omega)))))
  · first | exact trivial | exact hX | exact hX.below (below1 _) | exact RdIf.gone | exact hX.keep ((Below.refl _ _).setCell (by first | omega | (dsimp only; omega)) _)
  · exact (by first | exact XStab.true | exact XStab.rd | exact XStab.rdIf)
  · first | exact fun _ _ h => h.2 | exact fun _ _ h => h | exact fun h => absurd h (by decide)
  try simp only [upd, updI, List.map_cons, List.map_nil, eq_self, if_true, if_false, reduceIte, Nat.add_eq_left, Nat.left_eq_add, Nat.reduceEqDiff, List.set_cons_zero, List.set_cons_succ, hF]
  clear hK K hF hO
  try simp only [Act.put, List.setIfInBounds_toArray, List.set_cons_zero, List.set_cons_succ]
  refine Sim.sP (i := 9) (d := some 20) (h := ?_)
  refine Sim.sO (i := 10) (d := some 21) (v := ?_) (hy := ?_) (h := ?_)
  rotate_left
  · first | refine Or.inl ⟨by rfl, fun w hO => ?_⟩ | (refine Or.inr ⟨by rfl, ?_⟩; with_reducible rfl)
    first | done | (have hF := hO; (try simp only [Own, Item.Holds, apartI, CellsAt, Nat.reduceAdd, Nat.zero_add, List.mem_cons, List.not_mem_nil, or_false, forall_eq_or_imp, forall_eq, ne_eq, false_imp_iff, implies_true, and_true] at hF); ((try (have hc1 := hO.int_at (x := pk1) [0, 0, 0, 0, 0, 1, 2] (by first | exact List.mem_cons_self | exact List.mem_cons_of_mem _ List.mem_cons_self) lo1 (by simpa using hi1); rw [hy1] at hc1)); (try (have hc2 := hO.int_at (x := y1) [12 * (1 + pk0), 0, 769] (by first | exact List.mem_cons_self | exact List.mem_cons_of_mem _ List.mem_cons_self) ya1 (by simpa using yb1); rw [show ([12 * (1 + pk0), 0, 769] : List Int).getD y1.toNat 0 = three16 pk0 y1 from rfl] at hc2))); refine Out.same ?_; go_simp; all_goals with_reducible rfl)
  refine Sim.one' (i := 5) (oi := { dst := some 16, op := Op.buildSlice 55 3 #[(0, Operand.tmp 15), (1, Operand.const (Value.int IntKind.i64 0)), (2, Operand.const (Value.int IntKind.i64 769))], type := 55, pos := "l20_draw.go:839", after := #[{ on := 4, ground := Ground.data }, { on := 15, ground := Ground.gcOnly Departure.lateStores }], guard := none }) (by kernel_rfl) rfl (by rfl) (fun w0 hO hX K hK => ?_)
  have hF := hO; (try simp only [Own, Item.Holds, apartI, CellsAt, Nat.reduceAdd, Nat.zero_add, List.mem_cons, List.not_mem_nil, or_false, forall_eq_or_imp, forall_eq, ne_eq, false_imp_iff, implies_true, and_true] at hF)
  go_simp
  apply hK _ _ _ (fun W => RdIf (Nat.blt 3 3) W r (500 + 100 * 3))
  (repeat (first | (with_reducible exact hO) | (with_reducible apply Own.alloc) | (with_reducible apply Own.drew) | ((with_reducible apply Own.set_at); (focus (show _ ≤ _; omega)))))
  · first | exact trivial | exact hX | exact hX.below (below1 _) | exact RdIf.gone | exact hX.keep ((Below.refl _ _).setCell (by first | omega | (dsimp only; omega)) _)
  · exact (by first | exact XStab.true | exact XStab.rd | exact XStab.rdIf)
  · first | exact fun _ _ h => h.2 | exact fun _ _ h => h | exact fun h => absurd h (by decide)
  try simp only [upd, updI, List.map_cons, List.map_nil, eq_self, if_true, if_false, reduceIte, Nat.add_eq_left, Nat.left_eq_add, Nat.reduceEqDiff, List.set_cons_zero, List.set_cons_succ, hF]
  clear hK K hF hO
  try simp only [Act.put, List.setIfInBounds_toArray, List.set_cons_zero, List.set_cons_succ]
  refine Sim.sP (i := 11) (d := some 22) (h := ?_)
  refine Sim.sO (i := 12) (d := some 23) (v := ?_) (hy := ?_) (h := ?_)
  rotate_left
  · first | refine Or.inl ⟨by rfl, fun w hO => ?_⟩ | (refine Or.inr ⟨by rfl, ?_⟩; with_reducible rfl)
    first | done | (have hF := hO; (try simp only [Own, Item.Holds, apartI, CellsAt, Nat.reduceAdd, Nat.zero_add, List.mem_cons, List.not_mem_nil, or_false, forall_eq_or_imp, forall_eq, ne_eq, false_imp_iff, implies_true, and_true] at hF); ((try (have hc1 := hO.int_at (x := pk1) [0, 0, 0, 0, 0, 1, 2] (by first | exact List.mem_cons_self | exact List.mem_cons_of_mem _ List.mem_cons_self) lo1 (by simpa using hi1); rw [hy1] at hc1)); (try (have hc2 := hO.int_at (x := y1) [12 * (1 + pk0), 0, 769] (by first | exact List.mem_cons_self | exact List.mem_cons_of_mem _ List.mem_cons_self) ya1 (by simpa using yb1); rw [show ([12 * (1 + pk0), 0, 769] : List Int).getD y1.toNat 0 = three16 pk0 y1 from rfl] at hc2))); refine Out.same ?_; go_simp; all_goals with_reducible rfl)
  refine Sim.sP (i := 16) (d := some 3) (h := ?_)
  refine Sim.one' (i := 17) (oi := { dst := none, op := Op.store 31 (Operand.tmp 4) (Operand.tmp 25), type := 0, pos := "l20_draw.go:839", after := #[{ on := 14, ground := Ground.data }, { on := 16, ground := Ground.chain }, { on := 0, ground := Ground.phase }, { on := 1, ground := Ground.phase }, { on := 2, ground := Ground.phase }, { on := 3, ground := Ground.phase }, { on := 4, ground := Ground.phase }, { on := 5, ground := Ground.phase }, { on := 6, ground := Ground.phase }, { on := 7, ground := Ground.phase }, { on := 8, ground := Ground.phase }, { on := 9, ground := Ground.phase }, { on := 10, ground := Ground.phase }, { on := 11, ground := Ground.phase }, { on := 12, ground := Ground.phase }, { on := 13, ground := Ground.phase }, { on := 14, ground := Ground.phase }, { on := 15, ground := Ground.phase }, { on := 16, ground := Ground.phase }], guard := none }) (by kernel_rfl) rfl (by rfl) (fun w0 hO hX K hK => ?_)
  have hF := hO; (try simp only [Own, Item.Holds, apartI, CellsAt, Nat.reduceAdd, Nat.zero_add, List.mem_cons, List.not_mem_nil, or_false, forall_eq_or_imp, forall_eq, ne_eq, false_imp_iff, implies_true, and_true] at hF); ((try (have hc1 := hO.int_at (x := pk1) [0, 0, 0, 0, 0, 1, 2] (by first | exact List.mem_cons_self | exact List.mem_cons_of_mem _ List.mem_cons_self) lo1 (by simpa using hi1); rw [hy1] at hc1)); (try (have hc2 := hO.int_at (x := y1) [12 * (1 + pk0), 0, 769] (by first | exact List.mem_cons_self | exact List.mem_cons_of_mem _ List.mem_cons_self) ya1 (by simpa using yb1); rw [show ([12 * (1 + pk0), 0, 769] : List Int).getD y1.toNat 0 = three16 pk0 y1 from rfl] at hc2)))
  go_simp
  apply hK _ _ _ (fun W => RdIf (Nat.blt 3 3) W r (500 + 100 * 3))
  (repeat (first | (with_reducible exact hO) | (with_reducible apply Own.alloc) | (with_reducible apply Own.drew) | ((with_reducible apply Own.set_at); (focus (show _ ≤ _; omega)))))
  · first | exact trivial | exact hX | exact hX.below (below1 _) | exact RdIf.gone | exact hX.keep ((Below.refl _ _).setCell (by first | omega | (dsimp only; omega)) _)
  · exact (by first | exact XStab.true | exact XStab.rd | exact XStab.rdIf)
  · first | exact fun _ _ h => h.2 | exact fun _ _ h => h | exact fun h => absurd h (by decide)
  try simp only [upd, updI, List.map_cons, List.map_nil, eq_self, if_true, if_false, reduceIte, Nat.add_eq_left, Nat.left_eq_add, Nat.reduceEqDiff, List.set_cons_zero, List.set_cons_succ, hF]
  clear hK K hF hO
  try simp only [Act.put, List.setIfInBounds_toArray, List.set_cons_zero, List.set_cons_succ]
  refine Sim.done (by kernel_rfl) (fun w1 hO hX => ?_) _
  (try simp only [World.size_alloc1, World.size_drew, Nat.reduceAdd] at hO); (try simp only [upd, updI, List.map_cons, List.map_nil, eq_self, if_true, if_false, reduceIte, Nat.add_eq_left, Nat.left_eq_add, Nat.reduceEqDiff, List.set_cons_zero, List.set_cons_succ] at hO)
  have hF := hO; (try simp only [Own, Item.Holds, apartI, CellsAt, Nat.reduceAdd, Nat.zero_add, List.mem_cons, List.not_mem_nil, or_false, forall_eq_or_imp, forall_eq, ne_eq, false_imp_iff, implies_true, and_true] at hF)
  rotate_left 1
  have hF := hO; (try simp only [Own, Item.Holds, apartI, CellsAt, Nat.reduceAdd, Nat.zero_add, List.mem_cons, List.not_mem_nil, or_false, forall_eq_or_imp, forall_eq, ne_eq, false_imp_iff, implies_true, and_true] at hF)
  go_simp
  apply hK _ _ _ (fun W => RdIf (Nat.blt 0 3) W r (500 + 100 * 0))
  (repeat (first | (with_reducible exact hO) | (with_reducible apply Own.alloc) | (with_reducible apply Own.drew) | ((with_reducible apply Own.set_at); (focus (show _ ≤ _; omega)))))
  · first | exact trivial | exact hX | exact hX.below (below1 _) | exact RdIf.gone | exact hX.keep ((Below.refl _ _).setCell (by first | omega | (dsimp only; omega)) _)
  · exact (by first | exact XStab.true | exact XStab.rd | exact XStab.rdIf)
  · first | exact fun _ _ h => h.2 | exact fun _ _ h => h | exact fun h => absurd h (by decide)
  try simp only [upd, updI, List.map_cons, List.map_nil, eq_self, if_true, if_false, reduceIte, Nat.add_eq_left, Nat.left_eq_add, Nat.reduceEqDiff, List.set_cons_zero, List.set_cons_succ, hF]
  clear hK K hF hO
  try simp only [Act.put, List.setIfInBounds_toArray, List.set_cons_zero, List.set_cons_succ]
  refine Sim.one' (i := 2) (oi := { dst := some 13, op := Op.call { callee := Callee.value (Operand.func 54), args := #[Operand.tmp 12, Operand.const (Value.int IntKind.i64 16)], argTypes := #[69, 3] }, type := 3, pos := "l20_draw.go:839", after := #[{ on := 1, ground := Ground.data }], guard := none }) (by kernel_rfl) rfl (by rfl) (fun w0 hO hX K hK => ?_)
  have hF := hO; (try simp only [Own, Item.Holds, apartI, CellsAt, Nat.reduceAdd, Nat.zero_add, List.mem_cons, List.not_mem_nil, or_false, forall_eq_or_imp, forall_eq, ne_eq, false_imp_iff, implies_true, and_true] at hF)
  go_simp
  refine (pick_any r (500 + 100 * 0) _ _ (hX rfl) (by omega) (by decide) (by decide)).mono ?_
  rintro e wa ⟨pk0, lo0, hi0, rfl, hR4, hB4⟩
  have sb0 := seven16 pk0
  have wa0 : IntKind.i64.wrap (1 + pk0) = 1 + pk0 := IntWalk.i64_in _ (by omega)
  have wb0 : IntKind.i64.wrap (12 * (1 + pk0)) = 12 * (1 + pk0) := IntWalk.i64_in _ (by omega)
  obtain ⟨y0, hy0⟩ : ∃ y, ([0, 0, 0, 0, 0, 1, 2] : List Int).getD pk0.toNat 0 = y := ⟨_, rfl⟩
  rw [hy0] at sb0
  obtain ⟨ya0, yb0⟩ := sb0
  apply hK _ _ _ (fun W => RdIf (Nat.blt 1 3) W r (500 + 100 * 1))
  · exact Own.drawn hB4 hr0 (ne_rd16 hO (hX rfl) HU0.out (by simp [numHead16])) hO
  · exact fun _ => hR4.mono (by omega)
  · exact XStab.rdIf
  · exact fun _ _ h => h
  clear hR4 hB4
  clear hK K hF hO
  try simp only [Act.put, List.setIfInBounds_toArray, List.set_cons_zero, List.set_cons_succ]
  refine Sim.sP (i := 3) (d := some 14) (h := ?_)
  refine Sim.sP (i := 4) (d := some 15) (h := ?_)
  refine Sim.many (rs := [5, 8]) (by kernel_rfl) (by decide) ?_
  refine AllS.cons (oi := { dst := some 16, op := Op.buildSlice 55 3 #[(0, Operand.tmp 15), (1, Operand.const (Value.int IntKind.i64 0)), (2, Operand.const (Value.int IntKind.i64 769))], type := 55, pos := "l20_draw.go:839", after := #[{ on := 4, ground := Ground.data }, { on := 15, ground := Ground.gcOnly Departure.lateStores }], guard := none }) rfl (by rfl) (fun w0 hO hX K hK => ?_) ?_
  rotate_left
  refine AllS.cons (oi := { dst := some 19, op := Op.call { callee := Callee.value (Operand.func 54), args := #[Operand.tmp 18, Operand.const (Value.int IntKind.i64 7)], argTypes := #[69, 3] }, type := 3, pos := "l20_draw.go:839", after := #[{ on := 7, ground := Ground.data }, { on := 2, ground := Ground.chain }], guard := none }) rfl (by rfl) (fun w0 hO hX K hK => ?_) ?_
  rotate_left
  exact AllS.nil
  rotate_right 2
  have hF := hO; (try simp only [Own, Item.Holds, apartI, CellsAt, Nat.reduceAdd, Nat.zero_add, List.mem_cons, List.not_mem_nil, or_false, forall_eq_or_imp, forall_eq, ne_eq, false_imp_iff, implies_true, and_true] at hF)
  go_simp
  apply hK _ _ _ (fun W => RdIf (Nat.blt 1 3) W r (500 + 100 * 1))
  (repeat (first | (with_reducible exact hO) | (with_reducible apply Own.alloc) | (with_reducible apply Own.drew) | ((with_reducible apply Own.set_at); (focus (show _ ≤ _; omega)))))
  · first | exact trivial | exact hX | exact hX.below (below1 _) | exact RdIf.gone | exact hX.keep ((Below.refl _ _).setCell (by first | omega | (dsimp only; omega)) _)
  · exact (by first | exact XStab.true | exact XStab.rd | exact XStab.rdIf)
  · first | exact fun _ _ h => h.2 | exact fun _ _ h => h | exact fun h => absurd h (by decide)
  try simp only [upd, updI, List.map_cons, List.map_nil, eq_self, if_true, if_false, reduceIte, Nat.add_eq_left, Nat.left_eq_add, Nat.reduceEqDiff, List.set_cons_zero, List.set_cons_succ, hF]
  clear hK K hF hO
  try simp only [Act.put, List.setIfInBounds_toArray, List.set_cons_zero, List.set_cons_succ]
  refine Sim.one' (i := 8) (oi := { dst := some 19, op := Op.call { callee := Callee.value (Operand.func 54), args := #[Operand.tmp 18, Operand.const (Value.int IntKind.i64 7)], argTypes := #[69, 3] }, type := 3, pos := "l20_draw.go:839", after := #[{ on := 7, ground := Ground.data }, { on := 2, ground := Ground.chain }], guard := none }) (by kernel_rfl) rfl (by rfl) (fun w0 hO hX K hK => ?_)
  have hF := hO; (try simp only [Own, Item.Holds, apartI, CellsAt, Nat.reduceAdd, Nat.zero_add, List.mem_cons, List.not_mem_nil, or_false, forall_eq_or_imp, forall_eq, ne_eq, false_imp_iff, implies_true, and_true] at hF)
  go_simp
  refine (pick_any r (500 + 100 * 1) _ _ (hX rfl) (by omega) (by decide) (by decide)).mono ?_
  rintro e wa ⟨pk1, lo1, hi1, rfl, hR4, hB4⟩
  have sb1 := seven16 pk1
  have wa1 : IntKind.i64.wrap (1 + pk1) = 1 + pk1 := IntWalk.i64_in _ (by omega)
  have wb1 : IntKind.i64.wrap (12 * (1 + pk1)) = 12 * (1 + pk1) := IntWalk.i64_in _ (by omega)
  obtain ⟨y1, hy1⟩ : ∃ y, ([0, 0, 0, 0, 0, 1, 2] : List Int).getD pk1.toNat 0 = y := ⟨_, rfl⟩
  rw [hy1] at sb1
  obtain ⟨ya1, yb1⟩ := sb1
  apply hK _ _ _ (fun W => RdIf (Nat.blt 2 3) W r (500 + 100 * 2))
  · exact Own.drawn hB4 hr0 (ne_rd16 hO (hX rfl) HU0.out (by simp [numHead16])) hO
  · exact fun _ => hR4.mono (by omega)
  · exact XStab.rdIf
  · exact fun _ _ h => h
  clear hR4 hB4
  clear hK K hF hO
  try simp only [Act.put, List.setIfInBounds_toArray, List.set_cons_zero, List.set_cons_succ]
  refine Sim.sP (i := 9) (d := some 20) (h := ?_)
  refine Sim.sO (i := 10) (d := some 21) (v := ?_) (hy := ?_) (h := ?_)
  rotate_left
  · first | refine Or.inl ⟨by rfl, fun w hO => ?_⟩ | (refine Or.inr ⟨by rfl, ?_⟩; with_reducible rfl)
    first | done | (have hF := hO; (try simp only [Own, Item.Holds, apartI, CellsAt, Nat.reduceAdd, Nat.zero_add, List.mem_cons, List.not_mem_nil, or_false, forall_eq_or_imp, forall_eq, ne_eq, false_imp_iff, implies_true, and_true] at hF); ((try (have hc1 := hO.int_at (x := pk1) [0, 0, 0, 0, 0, 1, 2] (by first | exact List.mem_cons_self | exact List.mem_cons_of_mem _ List.mem_cons_self) lo1 (by simpa using hi1); rw [hy1] at hc1)); (try (have hc2 := hO.int_at (x := y1) [12 * (1 + pk0), 0, 769] (by first | exact List.mem_cons_self | exact List.mem_cons_of_mem _ List.mem_cons_self) ya1 (by simpa using yb1); rw [show ([12 * (1 + pk0), 0, 769] : List Int).getD y1.toNat 0 = three16 pk0 y1 from rfl] at hc2))); refine Out.same ?_; go_simp; all_goals with_reducible rfl)
  refine Sim.sP (i := 11) (d := some 22) (h := ?_)
  refine Sim.sO (i := 12) (d := some 23) (v := ?_) (hy := ?_) (h := ?_)
  rotate_left
  · first | refine Or.inl ⟨by rfl, fun w hO => ?_⟩ | (refine Or.inr ⟨by rfl, ?_⟩; with_reducible rfl)
    first | done | (have hF := hO; (try simp only [Own, Item.Holds, apartI, CellsAt, Nat.reduceAdd, Nat.zero_add, List.mem_cons, List.not_mem_nil, or_false, forall_eq_or_imp, forall_eq, ne_eq, false_imp_iff, implies_true, and_true] at hF); ((try (have hc1 := hO.int_at (x := pk1) [0, 0, 0, 0, 0, 1, 2] (by first | exact List.mem_cons_self | exact List.mem_cons_of_mem _ List.mem_cons_self) lo1 (by simpa using hi1); rw [hy1] at hc1)); (try (have hc2 := hO.int_at (x := y1) [12 * (1 + pk0), 0, 769] (by first | exact List.mem_cons_self | exact List.mem_cons_of_mem _ List.mem_cons_self) ya1 (by simpa using yb1); rw [show ([12 * (1 + pk0), 0, 769] : List Int).getD y1.toNat 0 = three16 pk0 y1 from rfl] at hc2))); refine Out.same ?_; go_simp; all_goals with_reducible rfl)
  refine Sim.one' (i := 14) (oi := { dst := some 25, op := Op.call { callee := Callee.value (Operand.func 62), args := #[Operand.tmp 24, Operand.const (Value.int IntKind.i64 14)], argTypes := #[69, 3] }, type := 31, pos := "l20_draw.go:839", after := #[{ on := 13, ground := Ground.data }, { on := 8, ground := Ground.chain }], guard := none }) (by kernel_rfl) rfl (by rfl) (fun w0 hO hX K hK => ?_)
  have hF := hO; (try simp only [Own, Item.Holds, apartI, CellsAt, Nat.reduceAdd, Nat.zero_add, List.mem_cons, List.not_mem_nil, or_false, forall_eq_or_imp, forall_eq, ne_eq, false_imp_iff, implies_true, and_true] at hF)
  go_simp
  refine (l20Way_any r (500 + 100 * 2) _ _ (hX rfl) (by omega) (by omega) (by omega)).mono ?_
  rintro e wa ⟨st, ha, hst, hha, rfl, hR4, hB4⟩
  apply hK _ _ _ (fun W => RdIf (Nat.blt 3 3) W r (500 + 100 * 3))
  · exact Own.drawn hB4 hr0 (ne_rd16 hO (hX rfl) HU0.out (by simp [numHead16])) hO
  · exact fun _ => hR4.mono (by omega)
  · exact XStab.rdIf
  · exact fun _ _ h => h
  clear hR4 hB4
  clear hK K hF hO
  try simp only [Act.put, List.setIfInBounds_toArray, List.set_cons_zero, List.set_cons_succ]
  refine Sim.sP (i := 15) (d := some 2) (h := ?_)
  refine Sim.sP (i := 16) (d := some 3) (h := ?_)
  refine Sim.one' (i := 17) (oi := { dst := none, op := Op.store 31 (Operand.tmp 4) (Operand.tmp 25), type := 0, pos := "l20_draw.go:839", after := #[{ on := 14, ground := Ground.data }, { on := 16, ground := Ground.chain }, { on := 0, ground := Ground.phase }, { on := 1, ground := Ground.phase }, { on := 2, ground := Ground.phase }, { on := 3, ground := Ground.phase }, { on := 4, ground := Ground.phase }, { on := 5, ground := Ground.phase }, { on := 6, ground := Ground.phase }, { on := 7, ground := Ground.phase }, { on := 8, ground := Ground.phase }, { on := 9, ground := Ground.phase }, { on := 10, ground := Ground.phase }, { on := 11, ground := Ground.phase }, { on := 12, ground := Ground.phase }, { on := 13, ground := Ground.phase }, { on := 14, ground := Ground.phase }, { on := 15, ground := Ground.phase }, { on := 16, ground := Ground.phase }], guard := none }) (by kernel_rfl) rfl (by rfl) (fun w0 hO hX K hK => ?_)
  have hF := hO; (try simp only [Own, Item.Holds, apartI, CellsAt, Nat.reduceAdd, Nat.zero_add, List.mem_cons, List.not_mem_nil, or_false, forall_eq_or_imp, forall_eq, ne_eq, false_imp_iff, implies_true, and_true] at hF); ((try (have hc1 := hO.int_at (x := pk1) [0, 0, 0, 0, 0, 1, 2] (by first | exact List.mem_cons_self | exact List.mem_cons_of_mem _ List.mem_cons_self) lo1 (by simpa using hi1); rw [hy1] at hc1)); (try (have hc2 := hO.int_at (x := y1) [12 * (1 + pk0), 0, 769] (by first | exact List.mem_cons_self | exact List.mem_cons_of_mem _ List.mem_cons_self) ya1 (by simpa using yb1); rw [show ([12 * (1 + pk0), 0, 769] : List Int).getD y1.toNat 0 = three16 pk0 y1 from rfl] at hc2)))
  go_simp
  apply hK _ _ _ (fun W => RdIf (Nat.blt 3 3) W r (500 + 100 * 3))
  (repeat (first | (with_reducible exact hO) | (with_reducible apply Own.alloc) | (with_reducible apply Own.drew) | ((with_reducible apply Own.set_at); (focus (show _ ≤ _; omega)))))
  · first | exact trivial | exact hX | exact hX.below (below1 _) | exact RdIf.gone | exact hX.keep ((Below.refl _ _).setCell (by first | omega | (dsimp only; omega)) _)
  · exact (by first | exact XStab.true | exact XStab.rd | exact XStab.rdIf)
  · first | exact fun _ _ h => h.2 | exact fun _ _ h => h | exact fun h => absurd h (by decide)
  try simp only [upd, updI, List.map_cons, List.map_nil, eq_self, if_true, if_false, reduceIte, Nat.add_eq_left, Nat.left_eq_add, Nat.reduceEqDiff, List.set_cons_zero, List.set_cons_succ, hF]
  clear hK K hF hO
  try simp only [Act.put, List.setIfInBounds_toArray, List.set_cons_zero, List.set_cons_succ]
  refine Sim.done (by kernel_rfl) (fun w1 hO hX => ?_) _
  (try simp only [World.size_alloc1, World.size_drew, Nat.reduceAdd] at hO); (try simp only [upd, updI, List.map_cons, List.map_nil, eq_self, if_true, if_false, reduceIte, Nat.add_eq_left, Nat.left_eq_add, Nat.reduceEqDiff, List.set_cons_zero, List.set_cons_succ] at hO)
  have hF := hO; (try simp only [Own, Item.Holds, apartI, CellsAt, Nat.reduceAdd, Nat.zero_add, List.mem_cons, List.not_mem_nil, or_false, forall_eq_or_imp, forall_eq, ne_eq, false_imp_iff, implies_true, and_true] at hF)
  rotate_left 1
  have hF := hO; (try simp only [Own, Item.Holds, apartI, CellsAt, Nat.reduceAdd, Nat.zero_add, List.mem_cons, List.not_mem_nil, or_false, forall_eq_or_imp, forall_eq, ne_eq, false_imp_iff, implies_true, and_true] at hF)
  go_simp
  refine (pick_any r (500 + 100 * 1) _ _ (hX rfl) (by omega) (by decide) (by decide)).mono ?_
  rintro e wa ⟨pk1, lo1, hi1, rfl, hR4, hB4⟩
  have sb1 := seven16 pk1
  have wa1 : IntKind.i64.wrap (1 + pk1) = 1 + pk1 := IntWalk.i64_in _ (by omega)
  have wb1 : IntKind.i64.wrap (12 * (1 + pk1)) = 12 * (1 + pk1) := IntWalk.i64_in _ (by omega)
  obtain ⟨y1, hy1⟩ : ∃ y, ([0, 0, 0, 0, 0, 1, 2] : List Int).getD pk1.toNat 0 = y := ⟨_, rfl⟩
  rw [hy1] at sb1
  obtain ⟨ya1, yb1⟩ := sb1
  apply hK _ _ _ (fun W => RdIf (Nat.blt 2 3) W r (500 + 100 * 2))
  · exact Own.drawn hB4 hr0 (ne_rd16 hO (hX rfl) HU0.out (by simp [numHead16])) hO
  · exact fun _ => hR4.mono (by omega)
  · exact XStab.rdIf
  · exact fun _ _ h => h
  clear hR4 hB4
  clear hK K hF hO
  try simp only [Act.put, List.setIfInBounds_toArray, List.set_cons_zero, List.set_cons_succ]
  refine Sim.sP (i := 9) (d := some 20) (h := ?_)
  refine Sim.sO (i := 10) (d := some 21) (v := ?_) (hy := ?_) (h := ?_)
  rotate_left
  · first | refine Or.inl ⟨by rfl, fun w hO => ?_⟩ | (refine Or.inr ⟨by rfl, ?_⟩; with_reducible rfl)
    first | done | (have hF := hO; (try simp only [Own, Item.Holds, apartI, CellsAt, Nat.reduceAdd, Nat.zero_add, List.mem_cons, List.not_mem_nil, or_false, forall_eq_or_imp, forall_eq, ne_eq, false_imp_iff, implies_true, and_true] at hF); ((try (have hc1 := hO.int_at (x := pk1) [0, 0, 0, 0, 0, 1, 2] (by first | exact List.mem_cons_self | exact List.mem_cons_of_mem _ List.mem_cons_self) lo1 (by simpa using hi1); rw [hy1] at hc1)); (try (have hc2 := hO.int_at (x := y1) [12 * (1 + pk0), 0, 769] (by first | exact List.mem_cons_self | exact List.mem_cons_of_mem _ List.mem_cons_self) ya1 (by simpa using yb1); rw [show ([12 * (1 + pk0), 0, 769] : List Int).getD y1.toNat 0 = three16 pk0 y1 from rfl] at hc2))); refine Out.same ?_; go_simp; all_goals with_reducible rfl)
  refine Sim.many (rs := [5, 14]) (by kernel_rfl) (by decide) ?_
  refine AllS.cons (oi := { dst := some 16, op := Op.buildSlice 55 3 #[(0, Operand.tmp 15), (1, Operand.const (Value.int IntKind.i64 0)), (2, Operand.const (Value.int IntKind.i64 769))], type := 55, pos := "l20_draw.go:839", after := #[{ on := 4, ground := Ground.data }, { on := 15, ground := Ground.gcOnly Departure.lateStores }], guard := none }) rfl (by rfl) (fun w0 hO hX K hK => ?_) ?_
  rotate_left
  refine AllS.cons (oi := { dst := some 25, op := Op.call { callee := Callee.value (Operand.func 62), args := #[Operand.tmp 24, Operand.const (Value.int IntKind.i64 14)], argTypes := #[69, 3] }, type := 31, pos := "l20_draw.go:839", after := #[{ on := 13, ground := Ground.data }, { on := 8, ground := Ground.chain }], guard := none }) rfl (by rfl) (fun w0 hO hX K hK => ?_) ?_
  rotate_left
  exact AllS.nil
  rotate_right 2
  have hF := hO; (try simp only [Own, Item.Holds, apartI, CellsAt, Nat.reduceAdd, Nat.zero_add, List.mem_cons, List.not_mem_nil, or_false, forall_eq_or_imp, forall_eq, ne_eq, false_imp_iff, implies_true, and_true] at hF)
  go_simp
  apply hK _ _ _ (fun W => RdIf (Nat.blt 2 3) W r (500 + 100 * 2))
  (repeat (first | (with_reducible exact hO) | (with_reducible apply Own.alloc) | (with_reducible apply Own.drew) | ((with_reducible apply Own.set_at); (focus (show _ ≤ _; omega)))))
  · first | exact trivial | exact hX | exact hX.below (below1 _) | exact RdIf.gone | exact hX.keep ((Below.refl _ _).setCell (by first | omega | (dsimp only; omega)) _)
  · exact (by first | exact XStab.true | exact XStab.rd | exact XStab.rdIf)
  · first | exact fun _ _ h => h.2 | exact fun _ _ h => h | exact fun h => absurd h (by decide)
  try simp only [upd, updI, List.map_cons, List.map_nil, eq_self, if_true, if_false, reduceIte, Nat.add_eq_left, Nat.left_eq_add, Nat.reduceEqDiff, List.set_cons_zero, List.set_cons_succ, hF]
  clear hK K hF hO
  try simp only [Act.put, List.setIfInBounds_toArray, List.set_cons_zero, List.set_cons_succ]
  refine Sim.sP (i := 11) (d := some 22) (h := ?_)
  refine Sim.sO (i := 12) (d := some 23) (v := ?_) (hy := ?_) (h := ?_)
  rotate_left
  · first | refine Or.inl ⟨by rfl, fun w hO => ?_⟩ | (refine Or.inr ⟨by rfl, ?_⟩; with_reducible rfl)
    first | done | (have hF := hO; (try simp only [Own, Item.Holds, apartI, CellsAt, Nat.reduceAdd, Nat.zero_add, List.mem_cons, List.not_mem_nil, or_false, forall_eq_or_imp, forall_eq, ne_eq, false_imp_iff, implies_true, and_true] at hF); ((try (have hc1 := hO.int_at (x := pk1) [0, 0, 0, 0, 0, 1, 2] (by first | exact List.mem_cons_self | exact List.mem_cons_of_mem _ List.mem_cons_self) lo1 (by simpa using hi1); rw [hy1] at hc1)); (try (have hc2 := hO.int_at (x := y1) [12 * (1 + pk0), 0, 769] (by first | exact List.mem_cons_self | exact List.mem_cons_of_mem _ List.mem_cons_self) ya1 (by simpa using yb1); rw [show ([12 * (1 + pk0), 0, 769] : List Int).getD y1.toNat 0 = three16 pk0 y1 from rfl] at hc2))); refine Out.same ?_; go_simp; all_goals with_reducible rfl)
  refine Sim.one' (i := 14) (oi := { dst := some 25, op := Op.call { callee := Callee.value (Operand.func 62), args := #[Operand.tmp 24, Operand.const (Value.int IntKind.i64 14)], argTypes := #[69, 3] }, type := 31, pos := "l20_draw.go:839", after := #[{ on := 13, ground := Ground.data }, { on := 8, ground := Ground.chain }], guard := none }) (by kernel_rfl) rfl (by rfl) (fun w0 hO hX K hK => ?_)
  have hF := hO; (try simp only [Own, Item.Holds, apartI, CellsAt, Nat.reduceAdd, Nat.zero_add, List.mem_cons, List.not_mem_nil, or_false, forall_eq_or_imp, forall_eq, ne_eq, false_imp_iff, implies_true, and_true] at hF)
  go_simp
  refine (l20Way_any r (500 + 100 * 2) _ _ (hX rfl) (by omega) (by omega) (by omega)).mono ?_
  rintro e wa ⟨st, ha, hst, hha, rfl, hR4, hB4⟩
  apply hK _ _ _ (fun W => RdIf (Nat.blt 3 3) W r (500 + 100 * 3))
  · exact Own.drawn hB4 hr0 (ne_rd16 hO (hX rfl) HU0.out (by simp [numHead16])) hO
  · exact fun _ => hR4.mono (by omega)
  · exact XStab.rdIf
  · exact fun _ _ h => h
  clear hR4 hB4
  clear hK K hF hO
  try simp only [Act.put, List.setIfInBounds_toArray, List.set_cons_zero, List.set_cons_succ]
  refine Sim.sP (i := 15) (d := some 2) (h := ?_)
  refine Sim.sP (i := 16) (d := some 3) (h := ?_)
  refine Sim.one' (i := 17) (oi := { dst := none, op := Op.store 31 (Operand.tmp 4) (Operand.tmp 25), type := 0, pos := "l20_draw.go:839", after := #[{ on := 14, ground := Ground.data }, { on := 16, ground := Ground.chain }, { on := 0, ground := Ground.phase }, { on := 1, ground := Ground.phase }, { on := 2, ground := Ground.phase }, { on := 3, ground := Ground.phase }, { on := 4, ground := Ground.phase }, { on := 5, ground := Ground.phase }, { on := 6, ground := Ground.phase }, { on := 7, ground := Ground.phase }, { on := 8, ground := Ground.phase }, { on := 9, ground := Ground.phase }, { on := 10, ground := Ground.phase }, { on := 11, ground := Ground.phase }, { on := 12, ground := Ground.phase }, { on := 13, ground := Ground.phase }, { on := 14, ground := Ground.phase }, { on := 15, ground := Ground.phase }, { on := 16, ground := Ground.phase }], guard := none }) (by kernel_rfl) rfl (by rfl) (fun w0 hO hX K hK => ?_)
  have hF := hO; (try simp only [Own, Item.Holds, apartI, CellsAt, Nat.reduceAdd, Nat.zero_add, List.mem_cons, List.not_mem_nil, or_false, forall_eq_or_imp, forall_eq, ne_eq, false_imp_iff, implies_true, and_true] at hF); ((try (have hc1 := hO.int_at (x := pk1) [0, 0, 0, 0, 0, 1, 2] (by first | exact List.mem_cons_self | exact List.mem_cons_of_mem _ List.mem_cons_self) lo1 (by simpa using hi1); rw [hy1] at hc1)); (try (have hc2 := hO.int_at (x := y1) [12 * (1 + pk0), 0, 769] (by first | exact List.mem_cons_self | exact List.mem_cons_of_mem _ List.mem_cons_self) ya1 (by simpa using yb1); rw [show ([12 * (1 + pk0), 0, 769] : List Int).getD y1.toNat 0 = three16 pk0 y1 from rfl] at hc2)))
  go_simp
  apply hK _ _ _ (fun W => RdIf (Nat.blt 3 3) W r (500 + 100 * 3))
  (repeat (first | (with_reducible exact hO) | (with_reducible apply Own.alloc) | (with_reducible apply Own.drew) | ((with_reducible apply Own.set_at); (focus (show _ ≤ _; omega)))))
  · first | exact trivial | exact hX | exact hX.below (below1 _) | exact RdIf.gone | exact hX.keep ((Below.refl _ _).setCell (by first | omega | (dsimp only; omega)) _)
  · exact (by first | exact XStab.true | exact XStab.rd | exact XStab.rdIf)
  · first | exact fun _ _ h => h.2 | exact fun _ _ h => h | exact fun h => absurd h (by decide)
  try simp only [upd, updI, List.map_cons, List.map_nil, eq_self, if_true, if_false, reduceIte, Nat.add_eq_left, Nat.left_eq_add, Nat.reduceEqDiff, List.set_cons_zero, List.set_cons_succ, hF]
  clear hK K hF hO
  try simp only [Act.put, List.setIfInBounds_toArray, List.set_cons_zero, List.set_cons_succ]
  refine Sim.done (by kernel_rfl) (fun w1 hO hX => ?_) _
  (try simp only [World.size_alloc1, World.size_drew, Nat.reduceAdd] at hO); (try simp only [upd, updI, List.map_cons, List.map_nil, eq_self, if_true, if_false, reduceIte, Nat.add_eq_left, Nat.left_eq_add, Nat.reduceEqDiff, List.set_cons_zero, List.set_cons_succ] at hO)
  have hF := hO; (try simp only [Own, Item.Holds, apartI, CellsAt, Nat.reduceAdd, Nat.zero_add, List.mem_cons, List.not_mem_nil, or_false, forall_eq_or_imp, forall_eq, ne_eq, false_imp_iff, implies_true, and_true] at hF)
  rotate_left 1
  have hF := hO; (try simp only [Own, Item.Holds, apartI, CellsAt, Nat.reduceAdd, Nat.zero_add, List.mem_cons, List.not_mem_nil, or_false, forall_eq_or_imp, forall_eq, ne_eq, false_imp_iff, implies_true, and_true] at hF)
  go_simp
  refine (l20Way_any r (500 + 100 * 2) _ _ (hX rfl) (by omega) (by omega) (by omega)).mono ?_
  rintro e wa ⟨st, ha, hst, hha, rfl, hR4, hB4⟩
  apply hK _ _ _ (fun W => RdIf (Nat.blt 3 3) W r (500 + 100 * 3))
  · exact Own.drawn hB4 hr0 (ne_rd16 hO (hX rfl) HU0.out (by simp [numHead16])) hO
  · exact fun _ => hR4.mono (by omega)
  · exact XStab.rdIf
  · exact fun _ _ h => h
  clear hR4 hB4
  clear hK K hF hO
  try simp only [Act.put, List.setIfInBounds_toArray, List.set_cons_zero, List.set_cons_succ]
  refine Sim.sP (i := 15) (d := some 2) (h := ?_)
  refine Sim.one' (i := 5) (oi := { dst := some 16, op := Op.buildSlice 55 3 #[(0, Operand.tmp 15), (1, Operand.const (Value.int IntKind.i64 0)), (2, Operand.const (Value.int IntKind.i64 769))], type := 55, pos := "l20_draw.go:839", after := #[{ on := 4, ground := Ground.data }, { on := 15, ground := Ground.gcOnly Departure.lateStores }], guard := none }) (by kernel_rfl) rfl (by rfl) (fun w0 hO hX K hK => ?_)
  have hF := hO; (try simp only [Own, Item.Holds, apartI, CellsAt, Nat.reduceAdd, Nat.zero_add, List.mem_cons, List.not_mem_nil, or_false, forall_eq_or_imp, forall_eq, ne_eq, false_imp_iff, implies_true, and_true] at hF)
  go_simp
  apply hK _ _ _ (fun W => RdIf (Nat.blt 3 3) W r (500 + 100 * 3))
  (repeat (first | (with_reducible exact hO) | (with_reducible apply Own.alloc) | (with_reducible apply Own.drew) | ((with_reducible apply Own.set_at); (focus (show _ ≤ _; omega)))))
  · first | exact trivial | exact hX | exact hX.below (below1 _) | exact RdIf.gone | exact hX.keep ((Below.refl _ _).setCell (by first | omega | (dsimp only; omega)) _)
  · exact (by first | exact XStab.true | exact XStab.rd | exact XStab.rdIf)
  · first | exact fun _ _ h => h.2 | exact fun _ _ h => h | exact fun h => absurd h (by decide)
  try simp only [upd, updI, List.map_cons, List.map_nil, eq_self, if_true, if_false, reduceIte, Nat.add_eq_left, Nat.left_eq_add, Nat.reduceEqDiff, List.set_cons_zero, List.set_cons_succ, hF]
  clear hK K hF hO
  try simp only [Act.put, List.setIfInBounds_toArray, List.set_cons_zero, List.set_cons_succ]
  refine Sim.sP (i := 11) (d := some 22) (h := ?_)
  refine Sim.sO (i := 12) (d := some 23) (v := ?_) (hy := ?_) (h := ?_)
  rotate_left
  · first | refine Or.inl ⟨by rfl, fun w hO => ?_⟩ | (refine Or.inr ⟨by rfl, ?_⟩; with_reducible rfl)
    first | done | (have hF := hO; (try simp only [Own, Item.Holds, apartI, CellsAt, Nat.reduceAdd, Nat.zero_add, List.mem_cons, List.not_mem_nil, or_false, forall_eq_or_imp, forall_eq, ne_eq, false_imp_iff, implies_true, and_true] at hF); ((try (have hc1 := hO.int_at (x := pk1) [0, 0, 0, 0, 0, 1, 2] (by first | exact List.mem_cons_self | exact List.mem_cons_of_mem _ List.mem_cons_self) lo1 (by simpa using hi1); rw [hy1] at hc1)); (try (have hc2 := hO.int_at (x := y1) [12 * (1 + pk0), 0, 769] (by first | exact List.mem_cons_self | exact List.mem_cons_of_mem _ List.mem_cons_self) ya1 (by simpa using yb1); rw [show ([12 * (1 + pk0), 0, 769] : List Int).getD y1.toNat 0 = three16 pk0 y1 from rfl] at hc2))); refine Out.same ?_; go_simp; all_goals with_reducible rfl)
  refine Sim.sP (i := 16) (d := some 3) (h := ?_)
  refine Sim.one' (i := 17) (oi := { dst := none, op := Op.store 31 (Operand.tmp 4) (Operand.tmp 25), type := 0, pos := "l20_draw.go:839", after := #[{ on := 14, ground := Ground.data }, { on := 16, ground := Ground.chain }, { on := 0, ground := Ground.phase }, { on := 1, ground := Ground.phase }, { on := 2, ground := Ground.phase }, { on := 3, ground := Ground.phase }, { on := 4, ground := Ground.phase }, { on := 5, ground := Ground.phase }, { on := 6, ground := Ground.phase }, { on := 7, ground := Ground.phase }, { on := 8, ground := Ground.phase }, { on := 9, ground := Ground.phase }, { on := 10, ground := Ground.phase }, { on := 11, ground := Ground.phase }, { on := 12, ground := Ground.phase }, { on := 13, ground := Ground.phase }, { on := 14, ground := Ground.phase }, { on := 15, ground := Ground.phase }, { on := 16, ground := Ground.phase }], guard := none }) (by kernel_rfl) rfl (by rfl) (fun w0 hO hX K hK => ?_)
  have hF := hO; (try simp only [Own, Item.Holds, apartI, CellsAt, Nat.reduceAdd, Nat.zero_add, List.mem_cons, List.not_mem_nil, or_false, forall_eq_or_imp, forall_eq, ne_eq, false_imp_iff, implies_true, and_true] at hF); ((try (have hc1 := hO.int_at (x := pk1) [0, 0, 0, 0, 0, 1, 2] (by first | exact List.mem_cons_self | exact List.mem_cons_of_mem _ List.mem_cons_self) lo1 (by simpa using hi1); rw [hy1] at hc1)); (try (have hc2 := hO.int_at (x := y1) [12 * (1 + pk0), 0, 769] (by first | exact List.mem_cons_self | exact List.mem_cons_of_mem _ List.mem_cons_self) ya1 (by simpa using yb1); rw [show ([12 * (1 + pk0), 0, 769] : List Int).getD y1.toNat 0 = three16 pk0 y1 from rfl] at hc2)))
  go_simp
  apply hK _ _ _ (fun W => RdIf (Nat.blt 3 3) W r (500 + 100 * 3))
  (repeat (first | (with_reducible exact hO) | (with_reducible apply Own.alloc) | (with_reducible apply Own.drew) | ((with_reducible apply Own.set_at); (focus (show _ ≤ _; omega)))))
  · first | exact trivial | exact hX | exact hX.below (below1 _) | exact RdIf.gone | exact hX.keep ((Below.refl _ _).setCell (by first | omega | (dsimp only; omega)) _)
  · exact (by first | exact XStab.true | exact XStab.rd | exact XStab.rdIf)
  · first | exact fun _ _ h => h.2 | exact fun _ _ h => h | exact fun h => absurd h (by decide)
  try simp only [upd, updI, List.map_cons, List.map_nil, eq_self, if_true, if_false, reduceIte, Nat.add_eq_left, Nat.left_eq_add, Nat.reduceEqDiff, List.set_cons_zero, List.set_cons_succ, hF]
  clear hK K hF hO
  try simp only [Act.put, List.setIfInBounds_toArray, List.set_cons_zero, List.set_cons_succ]
  refine Sim.done (by kernel_rfl) (fun w1 hO hX => ?_) _
  (try simp only [World.size_alloc1, World.size_drew, Nat.reduceAdd] at hO); (try simp only [upd, updI, List.map_cons, List.map_nil, eq_self, if_true, if_false, reduceIte, Nat.add_eq_left, Nat.left_eq_add, Nat.reduceEqDiff, List.set_cons_zero, List.set_cons_succ] at hO)
  have hF := hO; (try simp only [Own, Item.Holds, apartI, CellsAt, Nat.reduceAdd, Nat.zero_add, List.mem_cons, List.not_mem_nil, or_false, forall_eq_or_imp, forall_eq, ne_eq, false_imp_iff, implies_true, and_true] at hF)
  rotate_left 1
  all_goals
    have hB := three16_bd (y := y1) lo0 hi0
    generalize three16 pk0 y1 = z at hB ⊢
    have HB := hid hB
    clear hB
    go_wp2_with fail
    apply own_end hO
    (repeat (first | (with_reducible exact hO) | (with_reducible apply Own.alloc) | (with_reducible apply Own.drew) | ((with_reducible apply Own.set_at); (focus (show _ ≤ _; omega)))))
    have hG := hF; clear hF; clear hO; intro hO
    refine own_ret (v := .tuple #[u, .int .i64 z, .agg #[.int .i64 st, .int .i64 ha]]) hO ?_ rfl (fun hO => ⟨u, vs, z, st, ha, HV.out.1, HV.out.2, HB.out, hst, hha, rfl, Own.sub (List.singleton_sublist.2 (by simp)) hO⟩)
    clear hO; intro w1 hO
    (try simp only [World.size_alloc1, World.size_drew, Nat.reduceAdd] at hO); (try simp only [upd, updI, List.map_cons, List.map_nil, eq_self, if_true, if_false, reduceIte, Nat.add_eq_left, Nat.left_eq_add, Nat.reduceEqDiff, List.set_cons_zero, List.set_cons_succ, hG] at hO); clear hG
    have hF := hO; (try simp only [Own, Item.Holds, apartI, CellsAt, Nat.reduceAdd, Nat.zero_add, List.mem_cons, List.not_mem_nil, or_false, forall_eq_or_imp, forall_eq, ne_eq, false_imp_iff, implies_true, and_true] at hF)
    simp [results, Tryd.results28, go_sem, hF]
end Go.Proofs.YtmkhpafcgobfhaaDoor
