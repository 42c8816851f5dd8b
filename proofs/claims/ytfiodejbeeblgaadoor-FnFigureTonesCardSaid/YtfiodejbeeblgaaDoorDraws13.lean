/- The functions that draw for chapter 13: a bass pitch; a key, a bass pitch and a figure. -/
import Derived.Test.YtfiodejbeeblgaaDoorDraws10
import Derived.Test.YtfiodejbeeblgaaDoorDrawsKey
import Derived.Test.YtfiodejbeeblgaaDoorDrawBase
import Derived.Test.YtfiodejbeeblgaaDoorWalks3S
namespace Go.Proofs.YtfiodejbeeblgaaDoor
set_option linter.unusedSimpArgs false
set_option linter.unusedVariables false
set_option maxRecDepth 8000
open Go.RowKit

theorem kaS_is {f s z : Int} (h : kaZ f s = z) (W : World) :
    Calls Tryd.prog 73 #[.int .i64 f, .int .i64 s] W fun e w' => e = .returned (.int .i64 z) ∧ Below W.heap.size W w' := by
  subst h; exact kaS_any f s W
/-- A bass pitch is drawn. -/
def DrewBa (r : Nat) (P f : Int) (w : World) (e : Ending) (w' : World) : Prop :=
  ∃ s o : Int, (0 ≤ s ∧ s ≤ 6) ∧ (2 ≤ o ∧ o ≤ 3) ∧ e = .returned (.agg #[.int .i64 s, .int .i64 (kaZ f s), .int .i64 o]) ∧ Rd w' r (P + 2) ∧ ButR r w w'

set_option maxHeartbeats 2000000 in
theorem l20Bass_any (r : Nat) (P f : Int) (w : World) (h : Rd w r P) (hP : P ≤ 900000) :
    Calls Tryd.prog 41 #[.pointer (some ⟨r, 0, none⟩), .int .i64 f] w (DrewBa r P f w) := by
  have hr0 := h.lt
  have hO := Own.startD h
  have hF := True.intro
  clear h
  go_enter Tryd.func41, Tryd.ntmps41
  go_wp2_with fail
  (go_at_call 44; apply own_at hO; (repeat (first | (with_reducible exact hO) | (with_reducible apply Own.alloc) | (with_reducible apply Own.drew) | ((with_reducible apply Own.set_at); (focus (show _ ≤ _; omega))))); have hG := hF; clear hF; clear hO; intro hO; refine own_pick (k := 7) hO hr0 (by omega) (by omega) (by omega) ?_; clear hO; intro x w1 x0 x1 hO; (try simp only [World.size_alloc1, World.size_drew, Nat.reduceAdd] at hO); (try simp only [upd, updI, List.map_cons, List.map_nil, eq_self, if_true, if_false, reduceIte, Nat.add_eq_left, Nat.left_eq_add, Nat.reduceEqDiff, List.set_cons_zero, List.set_cons_succ, hG] at hO); clear hG; have hF := hO; (try simp only [Own, Item.Holds, apartI, CellsAt, Nat.reduceAdd, Nat.zero_add, List.mem_cons, List.not_mem_nil, or_false, forall_eq_or_imp, forall_eq, ne_eq, false_imp_iff, implies_true, and_true] at hF))
  obtain ⟨a, ha⟩ : ∃ a, kaZ f x = a := ⟨_, rfl⟩
  have HA := hid (And.intro ha (And.intro x0 x1))
  have HK := hid (fun W => kaS_is ha W)
  clear ha x0 x1
  generalize x = s at HA HK ⊢
  clear x
  go_wp2_with (go_at_call 73; apply own_at hO; (repeat (first | (with_reducible exact hO) | (with_reducible apply Own.alloc) | (with_reducible apply Own.drew) | ((with_reducible apply Own.set_at); (focus (show _ ≤ _; omega))))); have hG := hF; clear hF; clear hO; intro hO; refine own_call hO (fun hB => HK.out _) ?_; clear hO; intro w1 hO; (try simp only [World.size_alloc1, World.size_drew, Nat.reduceAdd] at hO); (try simp only [upd, updI, List.map_cons, List.map_nil, eq_self, if_true, if_false, reduceIte, Nat.add_eq_left, Nat.left_eq_add, Nat.reduceEqDiff, List.set_cons_zero, List.set_cons_succ, hG] at hO); clear hG; have hF := hO; (try simp only [Own, Item.Holds, apartI, CellsAt, Nat.reduceAdd, Nat.zero_add, List.mem_cons, List.not_mem_nil, or_false, forall_eq_or_imp, forall_eq, ne_eq, false_imp_iff, implies_true, and_true] at hF))
  (go_at_call 44; apply own_at hO; (repeat (first | (with_reducible exact hO) | (with_reducible apply Own.alloc) | (with_reducible apply Own.drew) | ((with_reducible apply Own.set_at); (focus (show _ ≤ _; omega))))); have hG := hF; clear hF; clear hO; intro hO; refine own_pick (k := 2) hO hr0 (by omega) (by omega) (by omega) ?_; clear hO; intro x w1 x0 x1 hO; (try simp only [World.size_alloc1, World.size_drew, Nat.reduceAdd] at hO); (try simp only [upd, updI, List.map_cons, List.map_nil, eq_self, if_true, if_false, reduceIte, Nat.add_eq_left, Nat.left_eq_add, Nat.reduceEqDiff, List.set_cons_zero, List.set_cons_succ, hG] at hO); clear hG; have hF := hO; (try simp only [Own, Item.Holds, apartI, CellsAt, Nat.reduceAdd, Nat.zero_add, List.mem_cons, List.not_mem_nil, or_false, forall_eq_or_imp, forall_eq, ne_eq, false_imp_iff, implies_true, and_true] at hF))
  have wx : IntKind.i64.wrap (2 + x) = 2 + x := IntWalk.i64_in _ (by omega)
  have HX := hid (And.intro x0 x1)
  go_wp2_with fail
  apply own_end hO
  (repeat (first | (with_reducible exact hO) | (with_reducible apply Own.alloc) | (with_reducible apply Own.drew) | ((with_reducible apply Own.set_at); (focus (show _ ≤ _; omega)))))
  have hG := hF; clear hF; clear hO; intro hO
  refine own_ret (v := .agg #[.int .i64 s, .int .i64 a, .int .i64 (2 + x)]) hO ?_ rfl (fun hO => ⟨s, 2 + x, by have := HA.out.2; omega, by have := HX.out; omega, by rw [HA.out.1], hO.base.2.mono (by omega), hO.base.1⟩)
  clear hO; intro w1 hO
  (try simp only [World.size_alloc1, World.size_drew, Nat.reduceAdd] at hO); (try simp only [upd, updI, List.map_cons, List.map_nil, eq_self, if_true, if_false, reduceIte, Nat.add_eq_left, Nat.left_eq_add, Nat.reduceEqDiff, List.set_cons_zero, List.set_cons_succ, hG] at hO); clear hG
  have hF := hO; (try simp only [Own, Item.Holds, apartI, CellsAt, Nat.reduceAdd, Nat.zero_add, List.mem_cons, List.not_mem_nil, or_false, forall_eq_or_imp, forall_eq, ne_eq, false_imp_iff, implies_true, and_true] at hF)
  simp [results, Tryd.results41, go_sem, hF]
theorem own_bass {r : Nat} {w0 W : World} {P f : Int} {L : List Item} {K : Ending → World → Prop} (hO : Own w0.heap.size (Bd r w0 P) W L) (hr : r < w0.heap.size) (hP : P ≤ 900000)
    (h : ∀ (s o : Int) w1, (0 ≤ s ∧ s ≤ 6) → (2 ≤ o ∧ o ≤ 3) → Own w0.heap.size (Bd r w0 (P + 2)) w1 L → K (.returned (.agg #[.int .i64 s, .int .i64 (kaZ f s), .int .i64 o])) w1) :
    Calls Tryd.prog 41 #[.pointer (some ⟨r, 0, none⟩), .int .i64 f] W K :=
  (l20Bass_any r P f W hO.base.2 hP).mono fun e w1 ⟨s, o, hs, ho, he, hR, hb⟩ => by
    subst he
    exact h s o w1 hs ho (hO.but hr (Stab.bd hr) ⟨hO.base.1.trans hb, hR⟩ hb)

theorem ne_two13 {a b r : Nat} {xs ys : List Value} (h1 : a ≠ r) (h2 : b ≠ r) : ∀ x ∈ [Item.blk a xs, Item.blk b ys], x.at? ≠ some r := by
  intro x hx e
  simp at hx
  rcases hx with rfl | rfl
  · exact h1 (by simpa [Item.at?] using e)
  · exact h2 (by simpa [Item.at?] using e)
theorem ne_three13 {a b c r : Nat} {xs ys zs : List Value} (h1 : a ≠ r) (h2 : b ≠ r) (h3 : c ≠ r) : ∀ x ∈ [Item.blk a xs, Item.blk b ys, Item.blk c zs], x.at? ≠ some r := by
  intro x hx e
  simp at hx
  rcases hx with rfl | rfl | rfl
  · exact h1 (by simpa [Item.at?] using e)
  · exact h2 (by simpa [Item.at?] using e)
  · exact h3 (by simpa [Item.at?] using e)
/-- The reader is there until the one pick. -/
def XR13 (r : Nat) (P : Int) : Nat → World → Prop
  | 0 => fun w => Rd w r P
  | _ + 1 => fun _ => True
theorem fg6_bd {x y : Int} (h0 : 0 ≤ x) (h1 : x ≤ 5) (h : ([5, 6, 4, 7, 5, 3] : List Int).getD x.toNat 0 = y) : 3 ≤ y ∧ y ≤ 7 := by
  subst h
  rcases (show x = 0 ∨ x = 1 ∨ x = 2 ∨ x = 3 ∨ x = 4 ∨ x = 5 by omega) with rfl | rfl | rfl | rfl | rfl | rfl <;> decide
/-- A key, a bass pitch and a figure are drawn. -/
def DrewFt (w : World) (e : Ending) (w' : World) : Prop :=
  ∃ (f : Int) (x : Pt) (g : Int), (-8 ≤ f ∧ f ≤ 8) ∧ ptOk x ∧ (3 ≤ g ∧ g ≤ 7) ∧ e = .returned (.tuple #[.int .i64 f, .agg #[.int .i64 x.s, .int .i64 x.a, .int .i64 x.o], .int .i64 g]) ∧ Below w.heap.size w w'

set_option maxHeartbeats 4000000 in
theorem DrawFigureTones_any (v : Value) (n : Nat) (w : World) (hn : n ≤ maxLen) (h : BytesB w w.heap.size v n) :
    Calls Tryd.prog 10 #[v] w (DrewFt w) := by
  have hO := Own.start w
  have hF := True.intro
  go_enter Tryd.func10, Tryd.ntmps10
  go_wp2_with fail
  apply own_at hO
  (repeat (first | (with_reducible exact hO) | (with_reducible apply Own.alloc) | (with_reducible apply Own.drew) | ((with_reducible apply Own.set_at); (focus (show _ ≤ _; omega)))))
  intro hO1
  refine (open_any v n _ hn (h.alloc _)).mono ?_
  rintro e w1 ⟨r, hr, rfl, hR, hb⟩
  have hne := hO1.ne_of hr
  have hr0 := Nat.le_trans hO1.low hr
  have hwr : w.heap.size ≠ r := fun e => hne _ List.mem_cons_self (by rw [e]; rfl)
  replace hO := hO1.below hb
  clear hO1 hb h hn
  go_wp2_with fail
  refine (l20Fifths_any r 0 _ _ hR (by omega) (by omega) (by omega)).mono ?_
  rintro e w2 ⟨f, hf, rfl, hR2, hB2⟩
  replace hO := hO.drawn hB2 hr0 hne
  go_wp2_with fail
  refine (l20Bass_any r (0 + 4) f _ hR2 (by omega)).mono ?_
  rintro e w3 ⟨s, o, hs, ho, rfl, hR3, hB3⟩
  replace hO := hO.drawn hB3 hr0 hne
  have hrl := hR3.lt
  have ha := kaZ_bd f s
  obtain ⟨a, hka⟩ : ∃ a, kaZ f s = a := ⟨_, rfl⟩
  rw [hka] at ha ⊢
  have HX := hid (show ptOk ⟨s, a, o⟩ from ⟨by dsimp only; omega, by dsimp only; omega, by dsimp only; omega⟩)
  have HF := hid hf
  clear hR hR2 hB2 hB3 hne hs ho ha hka hf
  go_wp2_with fail
  refine (odd_any r (0 + 4 + 2) 9 _ (hR3.below (below1 _)) (by omega) (by omega) (by omega)).mono ?_
  rintro e w4 ⟨bo, rfl, hR4, hB4⟩
  replace hO := (Own.alloc (t := 24) (vs := [.int .i64 s, .int .i64 a, .int .i64 o]) hO).drawn hB4 hr0 (ne_two13 (by omega) (by omega))
  have hr4 := hR4.lt
  have hG := hF
  (try simp only [World.size_alloc1, World.size_drew, Nat.reduceAdd] at hO); (try simp only [upd, updI, List.map_cons, List.map_nil, eq_self, if_true, if_false, reduceIte, Nat.add_eq_left, Nat.left_eq_add, Nat.reduceEqDiff, List.set_cons_zero, List.set_cons_succ, hG] at hO); clear hG
  clear hF hR3 hB4
  have hF := hO; (try simp only [Own, Item.Holds, apartI, CellsAt, Nat.reduceAdd, Nat.zero_add, List.mem_cons, List.not_mem_nil, or_false, forall_eq_or_imp, forall_eq, ne_eq, false_imp_iff, implies_true, and_true] at hF)
  cases bo
  · have hX : XR13 r (0 + 30) 0 w4 := hR4.mono (by omega)
    clear hR4
    go_wp2_with fail
    apply own_code hO
    (repeat (first | (with_reducible exact hO) | (with_reducible apply Own.alloc) | (with_reducible apply Own.drew) | ((with_reducible apply Own.set_at); (focus (show _ ≤ _; omega)))))
    have hG := hF; clear hF; clear hO; intro hO
    (try simp only [World.size_alloc1, World.size_drew, Nat.reduceAdd] at hO); (try simp only [upd, updI, List.map_cons, List.map_nil, eq_self, if_true, if_false, reduceIte, Nat.add_eq_left, Nat.left_eq_add, Nat.reduceEqDiff, List.set_cons_zero, List.set_cons_succ, hG] at hO); clear hG
    refine region_own (X := XR13 r (0 + 30) 0) [2, 8] (by kernel_rfl) (hO) (hX) (by first | exact XStab.true | exact XStab.rd | exact XStab.rdIf) ?_
    clear hO
    refine Sim.takeP (i := 0) (d := some 19) (v := ?_) rfl rfl (by kernel_rfl) (by kernel_rfl) (by kernel_rfl) (fun _ _ _ h => h) (by first | exact XStab.true | exact XStab.rd | exact XStab.rdIf) ?_ ?_
    rotate_left
    · first | refine Or.inl ⟨by rfl, fun w => ?_⟩ | (refine Or.inr ⟨by rfl, ?_⟩; with_reducible rfl)
      first | done | (go_simp; all_goals with_reducible rfl)
    try simp only [Act.put, List.setIfInBounds_toArray, List.set_cons_zero, List.set_cons_succ]
    refine Sim.takeP (i := 3) (d := some 22) (v := ?_) rfl rfl (by kernel_rfl) (by kernel_rfl) (by kernel_rfl) (fun _ _ _ h => h) (by first | exact XStab.true | exact XStab.rd | exact XStab.rdIf) ?_ ?_
    rotate_left
    · first | refine Or.inl ⟨by rfl, fun w => ?_⟩ | (refine Or.inr ⟨by rfl, ?_⟩; with_reducible rfl)
      first | done | (go_simp; all_goals with_reducible rfl)
    try simp only [Act.put, List.setIfInBounds_toArray, List.set_cons_zero, List.set_cons_succ]
    refine Sim.many (rs := [1, 2, 4]) (by kernel_rfl) (by decide) ?_
    refine AllS.cons (oi := { dst := some 20, op := Op.load 24 (Operand.tmp 7), type := 24, pos := "l20_draw.go:685", after := #[{ on := 7, ground := Ground.gcOnly Departure.lateStores }], guard := none }) rfl (by rfl) (fun w0 hO hX K hK => ?_) ?_
    rotate_left
    refine AllS.cons (oi := { dst := some 21, op := Op.buildSlice 34 6 #[(0, Operand.const (Value.int IntKind.i64 5)), (1, Operand.const (Value.int IntKind.i64 6)), (2, Operand.const (Value.int IntKind.i64 4)), (3, Operand.const (Value.int IntKind.i64 7)), (4, Operand.const (Value.int IntKind.i64 5)), (5, Operand.const (Value.int IntKind.i64 3))], type := 34, pos := "l20_draw.go:685", after := #[{ on := 8, ground := Ground.gcOnly Departure.lateStores }], guard := none }) rfl (by rfl) (fun w0 hO hX K hK => ?_) ?_
    rotate_left
    refine AllS.cons (oi := { dst := some 23, op := Op.call { callee := Callee.value (Operand.func 44), args := #[Operand.tmp 22, Operand.const (Value.int IntKind.i64 6)], argTypes := #[62, 3] }, type := 3, pos := "l20_draw.go:685", after := #[{ on := 3, ground := Ground.data }], guard := none }) rfl (by rfl) (fun w0 hO hX K hK => ?_) ?_
    rotate_left
    exact AllS.nil
    rotate_right 3
    have hF := hO; (try simp only [Own, Item.Holds, apartI, CellsAt, Nat.reduceAdd, Nat.zero_add, List.mem_cons, List.not_mem_nil, or_false, forall_eq_or_imp, forall_eq, ne_eq, false_imp_iff, implies_true, and_true] at hF); ((try (have hc1 := hO.int_at (x := pk0) [5, 6, 4, 7, 5, 3] (by first | exact List.mem_cons_self | exact List.mem_cons_of_mem _ List.mem_cons_self) lo0 (by simpa using hi0); rw [hy0] at hc1)))
    go_simp
    apply hK _ _ _ (XR13 r (0 + 30) 0)
    (repeat (first | (with_reducible exact hO) | (with_reducible apply Own.alloc) | (with_reducible apply Own.drew) | ((with_reducible apply Own.set_at); (focus (show _ ≤ _; omega)))))
    · first | exact trivial | exact hX | exact hX.below (below1 _) | exact RdIf.gone | exact hX.keep ((Below.refl _ _).setCell (by first | omega | (dsimp only; omega)) _)
    · exact (by first | exact XStab.true | exact XStab.rd | exact XStab.rdIf)
    · first | exact fun _ _ h => h.2 | exact fun _ _ h => h | exact fun h => absurd h (by decide)
    try simp only [upd, updI, List.map_cons, List.map_nil, eq_self, if_true, if_false, reduceIte, Nat.add_eq_left, Nat.left_eq_add, Nat.reduceEqDiff, List.set_cons_zero, List.set_cons_succ, hF]
    clear hK K hF hO
    try simp only [Act.put, List.setIfInBounds_toArray, List.set_cons_zero, List.set_cons_succ]
    refine Sim.many (rs := [2, 4]) (by kernel_rfl) (by decide) ?_
    refine AllS.cons (oi := { dst := some 21, op := Op.buildSlice 34 6 #[(0, Operand.const (Value.int IntKind.i64 5)), (1, Operand.const (Value.int IntKind.i64 6)), (2, Operand.const (Value.int IntKind.i64 4)), (3, Operand.const (Value.int IntKind.i64 7)), (4, Operand.const (Value.int IntKind.i64 5)), (5, Operand.const (Value.int IntKind.i64 3))], type := 34, pos := "l20_draw.go:685", after := #[{ on := 8, ground := Ground.gcOnly Departure.lateStores }], guard := none }) rfl (by rfl) (fun w0 hO hX K hK => ?_) ?_
    rotate_left
    refine AllS.cons (oi := { dst := some 23, op := Op.call { callee := Callee.value (Operand.func 44), args := #[Operand.tmp 22, Operand.const (Value.int IntKind.i64 6)], argTypes := #[62, 3] }, type := 3, pos := "l20_draw.go:685", after := #[{ on := 3, ground := Ground.data }], guard := none }) rfl (by rfl) (fun w0 hO hX K hK => ?_) ?_
    rotate_left
    exact AllS.nil
    rotate_right 2
    (have hF := hO; (try simp only [Own, Item.Holds, apartI, CellsAt, Nat.reduceAdd, Nat.zero_add, List.mem_cons, List.not_mem_nil, or_false, forall_eq_or_imp, forall_eq, ne_eq, false_imp_iff, implies_true, and_true] at hF))
    try (have hq := Rd.lt (show Rd _ r (0 + 30) from hX))
    go_simp
    apply hK _ _ _ (XR13 r (0 + 30) 0)
    · exact Own.alloc hO
    · first | exact trivial | exact Rd.below hX (below1 _)
    · first | exact XStab.true | exact XStab.rd
    · first | exact fun _ _ h => h.2 | exact fun h => absurd h (by decide)
    clear hO hF
    clear hK K
    try simp only [Act.put, List.setIfInBounds_toArray, List.set_cons_zero, List.set_cons_succ]
    refine Sim.one' (i := 4) (oi := { dst := some 23, op := Op.call { callee := Callee.value (Operand.func 44), args := #[Operand.tmp 22, Operand.const (Value.int IntKind.i64 6)], argTypes := #[62, 3] }, type := 3, pos := "l20_draw.go:685", after := #[{ on := 3, ground := Ground.data }], guard := none }) (by kernel_rfl) rfl (by rfl) (fun w0 hO hX K hK => ?_)
    have hF := hO; (try simp only [Own, Item.Holds, apartI, CellsAt, Nat.reduceAdd, Nat.zero_add, List.mem_cons, List.not_mem_nil, or_false, forall_eq_or_imp, forall_eq, ne_eq, false_imp_iff, implies_true, and_true] at hF)
    go_simp
    refine (pick_any r (0 + 30) _ _ hX (by omega) (by decide) (by decide)).mono ?_
    rintro e wa ⟨pk0, lo0, hi0, rfl, hR7, hB7⟩
    obtain ⟨y0, hy0⟩ : ∃ y, ([5, 6, 4, 7, 5, 3] : List Int).getD pk0.toNat 0 = y := ⟨_, rfl⟩
    apply hK _ _ _ (XR13 r (0 + 30) 1)
    · exact Own.drawn hB7 hr0 (by first | exact ne_two13 (by omega) (by omega) | exact ne_three13 (by omega) (by omega) (by omega)) hO
    · exact trivial
    · exact XStab.true
    · exact fun _ _ h => h
    clear hR7 hB7
    clear hK K hF hO
    try simp only [Act.put, List.setIfInBounds_toArray, List.set_cons_zero, List.set_cons_succ]
    refine Sim.takeP (i := 5) (d := some 24) (v := ?_) rfl rfl (by kernel_rfl) (by kernel_rfl) (by kernel_rfl) (fun _ _ _ h => h) (by first | exact XStab.true | exact XStab.rd | exact XStab.rdIf) ?_ ?_
    rotate_left
    · first | refine Or.inl ⟨by rfl, fun w => ?_⟩ | (refine Or.inr ⟨by rfl, ?_⟩; with_reducible rfl)
      first | done | (go_simp; all_goals with_reducible rfl)
    try simp only [Act.put, List.setIfInBounds_toArray, List.set_cons_zero, List.set_cons_succ]
    refine Sim.takeP (i := 7) (d := some 2) (v := ?_) rfl rfl (by kernel_rfl) (by kernel_rfl) (by kernel_rfl) (fun _ _ _ h => h) (by first | exact XStab.true | exact XStab.rd | exact XStab.rdIf) ?_ ?_
    rotate_left
    · first | refine Or.inl ⟨by rfl, fun w => ?_⟩ | (refine Or.inr ⟨by rfl, ?_⟩; with_reducible rfl)
      first | done | (go_simp; all_goals with_reducible rfl)
    try simp only [Act.put, List.setIfInBounds_toArray, List.set_cons_zero, List.set_cons_succ]
    refine Sim.many (rs := [6, 8]) (by kernel_rfl) (by decide) ?_
    refine AllS.cons (oi := { dst := some 25, op := Op.load 3 (Operand.tmp 24), type := 3, pos := "l20_draw.go:685", after := #[{ on := 5, ground := Ground.data }, { on := 8, ground := Ground.gcOnly Departure.lateStores }], guard := none }) rfl (by rfl) (fun w0 hO hX K hK => ?_) ?_
    rotate_left
    refine AllS.cons (oi := { dst := none, op := Op.store 24 (Operand.tmp 3) (Operand.tmp 20), type := 0, pos := "l20_draw.go:685", after := #[{ on := 1, ground := Ground.data }, { on := 7, ground := Ground.chain }, { on := 0, ground := Ground.phase }, { on := 1, ground := Ground.phase }, { on := 2, ground := Ground.textOnly Departure.lateStores }, { on := 3, ground := Ground.textOnly Departure.lateStores }, { on := 4, ground := Ground.textOnly Departure.lateStoresUnsure }, { on := 5, ground := Ground.textOnly Departure.lateStores }, { on := 6, ground := Ground.textOnly Departure.lateStores }, { on := 7, ground := Ground.phase }], guard := none }) rfl (by rfl) (fun w0 hO hX K hK => ?_) ?_
    rotate_left
    exact AllS.nil
    rotate_right 2
    have hF := hO; (try simp only [Own, Item.Holds, apartI, CellsAt, Nat.reduceAdd, Nat.zero_add, List.mem_cons, List.not_mem_nil, or_false, forall_eq_or_imp, forall_eq, ne_eq, false_imp_iff, implies_true, and_true] at hF); ((try (have hc1 := hO.int_at (x := pk0) [5, 6, 4, 7, 5, 3] (by first | exact List.mem_cons_self | exact List.mem_cons_of_mem _ List.mem_cons_self) lo0 (by simpa using hi0); rw [hy0] at hc1)))
    go_simp
    apply hK _ _ _ (XR13 r (0 + 30) 1)
    (repeat (first | (with_reducible exact hO) | (with_reducible apply Own.alloc) | (with_reducible apply Own.drew) | ((with_reducible apply Own.set_at); (focus (show _ ≤ _; omega)))))
    · first | exact trivial | exact hX | exact hX.below (below1 _) | exact RdIf.gone | exact hX.keep ((Below.refl _ _).setCell (by first | omega | (dsimp only; omega)) _)
    · exact (by first | exact XStab.true | exact XStab.rd | exact XStab.rdIf)
    · first | exact fun _ _ h => h.2 | exact fun _ _ h => h | exact fun h => absurd h (by decide)
    try simp only [upd, updI, List.map_cons, List.map_nil, eq_self, if_true, if_false, reduceIte, Nat.add_eq_left, Nat.left_eq_add, Nat.reduceEqDiff, List.set_cons_zero, List.set_cons_succ, hF]
    clear hK K hF hO
    try simp only [Act.put, List.setIfInBounds_toArray, List.set_cons_zero, List.set_cons_succ]
    refine Sim.one' (i := 8) (oi := { dst := none, op := Op.store 24 (Operand.tmp 3) (Operand.tmp 20), type := 0, pos := "l20_draw.go:685", after := #[{ on := 1, ground := Ground.data }, { on := 7, ground := Ground.chain }, { on := 0, ground := Ground.phase }, { on := 1, ground := Ground.phase }, { on := 2, ground := Ground.textOnly Departure.lateStores }, { on := 3, ground := Ground.textOnly Departure.lateStores }, { on := 4, ground := Ground.textOnly Departure.lateStoresUnsure }, { on := 5, ground := Ground.textOnly Departure.lateStores }, { on := 6, ground := Ground.textOnly Departure.lateStores }, { on := 7, ground := Ground.phase }], guard := none }) (by kernel_rfl) rfl (by rfl) (fun w0 hO hX K hK => ?_)
    have hF := hO; (try simp only [Own, Item.Holds, apartI, CellsAt, Nat.reduceAdd, Nat.zero_add, List.mem_cons, List.not_mem_nil, or_false, forall_eq_or_imp, forall_eq, ne_eq, false_imp_iff, implies_true, and_true] at hF); ((try (have hc1 := hO.int_at (x := pk0) [5, 6, 4, 7, 5, 3] (by first | exact List.mem_cons_self | exact List.mem_cons_of_mem _ List.mem_cons_self) lo0 (by simpa using hi0); rw [hy0] at hc1)))
    go_simp
    apply hK _ _ _ (XR13 r (0 + 30) 1)
    (repeat (first | (with_reducible exact hO) | (with_reducible apply Own.alloc) | (with_reducible apply Own.drew) | ((with_reducible apply Own.set_at); (focus (show _ ≤ _; omega)))))
    · first | exact trivial | exact hX | exact hX.below (below1 _) | exact RdIf.gone | exact hX.keep ((Below.refl _ _).setCell (by first | omega | (dsimp only; omega)) _)
    · exact (by first | exact XStab.true | exact XStab.rd | exact XStab.rdIf)
    · first | exact fun _ _ h => h.2 | exact fun _ _ h => h | exact fun h => absurd h (by decide)
    try simp only [upd, updI, List.map_cons, List.map_nil, eq_self, if_true, if_false, reduceIte, Nat.add_eq_left, Nat.left_eq_add, Nat.reduceEqDiff, List.set_cons_zero, List.set_cons_succ, hF]
    clear hK K hF hO
    try simp only [Act.put, List.setIfInBounds_toArray, List.set_cons_zero, List.set_cons_succ]
    refine Sim.takeP (i := 9) (d := some 4) (v := ?_) rfl rfl (by kernel_rfl) (by kernel_rfl) (by kernel_rfl) (fun _ _ _ h => h) (by first | exact XStab.true | exact XStab.rd | exact XStab.rdIf) ?_ ?_
    rotate_left
    · first | refine Or.inl ⟨by rfl, fun w => ?_⟩ | (refine Or.inr ⟨by rfl, ?_⟩; with_reducible rfl)
      first | done | (go_simp; all_goals with_reducible rfl)
    try simp only [Act.put, List.setIfInBounds_toArray, List.set_cons_zero, List.set_cons_succ]
    refine Sim.done (by kernel_rfl) (fun w1 hO hX => ?_) _
    (try simp only [World.size_alloc1, World.size_drew, Nat.reduceAdd] at hO); (try simp only [upd, updI, List.map_cons, List.map_nil, eq_self, if_true, if_false, reduceIte, Nat.add_eq_left, Nat.left_eq_add, Nat.reduceEqDiff, List.set_cons_zero, List.set_cons_succ] at hO)
    have hF := hO; (try simp only [Own, Item.Holds, apartI, CellsAt, Nat.reduceAdd, Nat.zero_add, List.mem_cons, List.not_mem_nil, or_false, forall_eq_or_imp, forall_eq, ne_eq, false_imp_iff, implies_true, and_true] at hF)
    rotate_left 1
    have hF := hO; (try simp only [Own, Item.Holds, apartI, CellsAt, Nat.reduceAdd, Nat.zero_add, List.mem_cons, List.not_mem_nil, or_false, forall_eq_or_imp, forall_eq, ne_eq, false_imp_iff, implies_true, and_true] at hF); ((try (have hc1 := hO.int_at (x := pk0) [5, 6, 4, 7, 5, 3] (by first | exact List.mem_cons_self | exact List.mem_cons_of_mem _ List.mem_cons_self) lo0 (by simpa using hi0); rw [hy0] at hc1)))
    go_simp
    apply hK _ _ _ (XR13 r (0 + 30) 1)
    (repeat (first | (with_reducible exact hO) | (with_reducible apply Own.alloc) | (with_reducible apply Own.drew) | ((with_reducible apply Own.set_at); (focus (show _ ≤ _; omega)))))
    · first | exact trivial | exact hX | exact hX.below (below1 _) | exact RdIf.gone | exact hX.keep ((Below.refl _ _).setCell (by first | omega | (dsimp only; omega)) _)
    · exact (by first | exact XStab.true | exact XStab.rd | exact XStab.rdIf)
    · first | exact fun _ _ h => h.2 | exact fun _ _ h => h | exact fun h => absurd h (by decide)
    try simp only [upd, updI, List.map_cons, List.map_nil, eq_self, if_true, if_false, reduceIte, Nat.add_eq_left, Nat.left_eq_add, Nat.reduceEqDiff, List.set_cons_zero, List.set_cons_succ, hF]
    clear hK K hF hO
    try simp only [Act.put, List.setIfInBounds_toArray, List.set_cons_zero, List.set_cons_succ]
    refine Sim.take (i := 6) (d := some 25) (v := ?_) rfl rfl (by kernel_rfl) (by kernel_rfl) (by kernel_rfl) (by kernel_rfl) (fun _ _ _ h => h) (by first | exact XStab.true | exact XStab.rd | exact XStab.rdIf) ?_ ?_
    rotate_left
    · first | refine Or.inl ⟨by rfl, fun w hO => ?_⟩ | (refine Or.inr ⟨by rfl, ?_⟩; with_reducible rfl)
      first | done | (have hF := hO; (try simp only [Own, Item.Holds, apartI, CellsAt, Nat.reduceAdd, Nat.zero_add, List.mem_cons, List.not_mem_nil, or_false, forall_eq_or_imp, forall_eq, ne_eq, false_imp_iff, implies_true, and_true] at hF); ((try (have hc1 := hO.int_at (x := pk0) [5, 6, 4, 7, 5, 3] (by first | exact List.mem_cons_self | exact List.mem_cons_of_mem _ List.mem_cons_self) lo0 (by simpa using hi0); rw [hy0] at hc1))); refine Out.same ?_; go_simp; all_goals with_reducible rfl)
    try simp only [Act.put, List.setIfInBounds_toArray, List.set_cons_zero, List.set_cons_succ]
    refine Sim.takeP (i := 9) (d := some 4) (v := ?_) rfl rfl (by kernel_rfl) (by kernel_rfl) (by kernel_rfl) (fun _ _ _ h => h) (by first | exact XStab.true | exact XStab.rd | exact XStab.rdIf) ?_ ?_
    rotate_left
    · first | refine Or.inl ⟨by rfl, fun w => ?_⟩ | (refine Or.inr ⟨by rfl, ?_⟩; with_reducible rfl)
      first | done | (go_simp; all_goals with_reducible rfl)
    try simp only [Act.put, List.setIfInBounds_toArray, List.set_cons_zero, List.set_cons_succ]
    refine Sim.done (by kernel_rfl) (fun w1 hO hX => ?_) _
    (try simp only [World.size_alloc1, World.size_drew, Nat.reduceAdd] at hO); (try simp only [upd, updI, List.map_cons, List.map_nil, eq_self, if_true, if_false, reduceIte, Nat.add_eq_left, Nat.left_eq_add, Nat.reduceEqDiff, List.set_cons_zero, List.set_cons_succ] at hO)
    have hF := hO; (try simp only [Own, Item.Holds, apartI, CellsAt, Nat.reduceAdd, Nat.zero_add, List.mem_cons, List.not_mem_nil, or_false, forall_eq_or_imp, forall_eq, ne_eq, false_imp_iff, implies_true, and_true] at hF)
    rotate_left 1
    have hF := hO; (try simp only [Own, Item.Holds, apartI, CellsAt, Nat.reduceAdd, Nat.zero_add, List.mem_cons, List.not_mem_nil, or_false, forall_eq_or_imp, forall_eq, ne_eq, false_imp_iff, implies_true, and_true] at hF)
    go_simp
    refine (pick_any r (0 + 30) _ _ hX (by omega) (by decide) (by decide)).mono ?_
    rintro e wa ⟨pk0, lo0, hi0, rfl, hR7, hB7⟩
    obtain ⟨y0, hy0⟩ : ∃ y, ([5, 6, 4, 7, 5, 3] : List Int).getD pk0.toNat 0 = y := ⟨_, rfl⟩
    apply hK _ _ _ (XR13 r (0 + 30) 1)
    · exact Own.drawn hB7 hr0 (by first | exact ne_two13 (by omega) (by omega) | exact ne_three13 (by omega) (by omega) (by omega)) hO
    · exact trivial
    · exact XStab.true
    · exact fun _ _ h => h
    clear hR7 hB7
    clear hK K hF hO
    try simp only [Act.put, List.setIfInBounds_toArray, List.set_cons_zero, List.set_cons_succ]
    refine Sim.takeP (i := 7) (d := some 2) (v := ?_) rfl rfl (by kernel_rfl) (by kernel_rfl) (by kernel_rfl) (fun _ _ _ h => h) (by first | exact XStab.true | exact XStab.rd | exact XStab.rdIf) ?_ ?_
    rotate_left
    · first | refine Or.inl ⟨by rfl, fun w => ?_⟩ | (refine Or.inr ⟨by rfl, ?_⟩; with_reducible rfl)
      first | done | (go_simp; all_goals with_reducible rfl)
    try simp only [Act.put, List.setIfInBounds_toArray, List.set_cons_zero, List.set_cons_succ]
    refine Sim.many (rs := [2, 8]) (by kernel_rfl) (by decide) ?_
    refine AllS.cons (oi := { dst := some 21, op := Op.buildSlice 34 6 #[(0, Operand.const (Value.int IntKind.i64 5)), (1, Operand.const (Value.int IntKind.i64 6)), (2, Operand.const (Value.int IntKind.i64 4)), (3, Operand.const (Value.int IntKind.i64 7)), (4, Operand.const (Value.int IntKind.i64 5)), (5, Operand.const (Value.int IntKind.i64 3))], type := 34, pos := "l20_draw.go:685", after := #[{ on := 8, ground := Ground.gcOnly Departure.lateStores }], guard := none }) rfl (by rfl) (fun w0 hO hX K hK => ?_) ?_
    rotate_left
    refine AllS.cons (oi := { dst := none, op := Op.store 24 (Operand.tmp 3) (Operand.tmp 20), type := 0, pos := "l20_draw.go:685", after := #[{ on := 1, ground := Ground.data }, { on := 7, ground := Ground.chain }, { on := 0, ground := Ground.phase }, { on := 1, ground := Ground.phase }, { on := 2, ground := Ground.textOnly Departure.lateStores }, { on := 3, ground := Ground.textOnly Departure.lateStores }, { on := 4, ground := Ground.textOnly Departure.lateStoresUnsure }, { on := 5, ground := Ground.textOnly Departure.lateStores }, { on := 6, ground := Ground.textOnly Departure.lateStores }, { on := 7, ground := Ground.phase }], guard := none }) rfl (by rfl) (fun w0 hO hX K hK => ?_) ?_
    rotate_left
    exact AllS.nil
    rotate_right 2
    (have hF := hO; (try simp only [Own, Item.Holds, apartI, CellsAt, Nat.reduceAdd, Nat.zero_add, List.mem_cons, List.not_mem_nil, or_false, forall_eq_or_imp, forall_eq, ne_eq, false_imp_iff, implies_true, and_true] at hF))
    try (have hq := Rd.lt (show Rd _ r (0 + 30) from hX))
    go_simp
    apply hK _ _ _ (XR13 r (0 + 30) 1)
    · exact Own.alloc hO
    · first | exact trivial | exact Rd.below hX (below1 _)
    · first | exact XStab.true | exact XStab.rd
    · first | exact fun _ _ h => h.2 | exact fun h => absurd h (by decide)
    clear hO hF
    clear hK K
    try simp only [Act.put, List.setIfInBounds_toArray, List.set_cons_zero, List.set_cons_succ]
    refine Sim.takeP (i := 5) (d := some 24) (v := ?_) rfl rfl (by kernel_rfl) (by kernel_rfl) (by kernel_rfl) (fun _ _ _ h => h) (by first | exact XStab.true | exact XStab.rd | exact XStab.rdIf) ?_ ?_
    rotate_left
    · first | refine Or.inl ⟨by rfl, fun w => ?_⟩ | (refine Or.inr ⟨by rfl, ?_⟩; with_reducible rfl)
      first | done | (go_simp; all_goals with_reducible rfl)
    try simp only [Act.put, List.setIfInBounds_toArray, List.set_cons_zero, List.set_cons_succ]
    refine Sim.many (rs := [6, 8]) (by kernel_rfl) (by decide) ?_
    refine AllS.cons (oi := { dst := some 25, op := Op.load 3 (Operand.tmp 24), type := 3, pos := "l20_draw.go:685", after := #[{ on := 5, ground := Ground.data }, { on := 8, ground := Ground.gcOnly Departure.lateStores }], guard := none }) rfl (by rfl) (fun w0 hO hX K hK => ?_) ?_
    rotate_left
    refine AllS.cons (oi := { dst := none, op := Op.store 24 (Operand.tmp 3) (Operand.tmp 20), type := 0, pos := "l20_draw.go:685", after := #[{ on := 1, ground := Ground.data }, { on := 7, ground := Ground.chain }, { on := 0, ground := Ground.phase }, { on := 1, ground := Ground.phase }, { on := 2, ground := Ground.textOnly Departure.lateStores }, { on := 3, ground := Ground.textOnly Departure.lateStores }, { on := 4, ground := Ground.textOnly Departure.lateStoresUnsure }, { on := 5, ground := Ground.textOnly Departure.lateStores }, { on := 6, ground := Ground.textOnly Departure.lateStores }, { on := 7, ground := Ground.phase }], guard := none }) rfl (by rfl) (fun w0 hO hX K hK => ?_) ?_
    rotate_left
    exact AllS.nil
    rotate_right 2
    have hF := hO; (try simp only [Own, Item.Holds, apartI, CellsAt, Nat.reduceAdd, Nat.zero_add, List.mem_cons, List.not_mem_nil, or_false, forall_eq_or_imp, forall_eq, ne_eq, false_imp_iff, implies_true, and_true] at hF); ((try (have hc1 := hO.int_at (x := pk0) [5, 6, 4, 7, 5, 3] (by first | exact List.mem_cons_self | exact List.mem_cons_of_mem _ List.mem_cons_self) lo0 (by simpa using hi0); rw [hy0] at hc1)))
    go_simp
    apply hK _ _ _ (XR13 r (0 + 30) 1)
    (repeat (first | (with_reducible exact hO) | (with_reducible apply Own.alloc) | (with_reducible apply Own.drew) | ((with_reducible apply Own.set_at); (focus (show _ ≤ _; omega)))))
    · first | exact trivial | exact hX | exact hX.below (below1 _) | exact RdIf.gone | exact hX.keep ((Below.refl _ _).setCell (by first | omega | (dsimp only; omega)) _)
    · exact (by first | exact XStab.true | exact XStab.rd | exact XStab.rdIf)
    · first | exact fun _ _ h => h.2 | exact fun _ _ h => h | exact fun h => absurd h (by decide)
    try simp only [upd, updI, List.map_cons, List.map_nil, eq_self, if_true, if_false, reduceIte, Nat.add_eq_left, Nat.left_eq_add, Nat.reduceEqDiff, List.set_cons_zero, List.set_cons_succ, hF]
    clear hK K hF hO
    try simp only [Act.put, List.setIfInBounds_toArray, List.set_cons_zero, List.set_cons_succ]
    refine Sim.one' (i := 8) (oi := { dst := none, op := Op.store 24 (Operand.tmp 3) (Operand.tmp 20), type := 0, pos := "l20_draw.go:685", after := #[{ on := 1, ground := Ground.data }, { on := 7, ground := Ground.chain }, { on := 0, ground := Ground.phase }, { on := 1, ground := Ground.phase }, { on := 2, ground := Ground.textOnly Departure.lateStores }, { on := 3, ground := Ground.textOnly Departure.lateStores }, { on := 4, ground := Ground.textOnly Departure.lateStoresUnsure }, { on := 5, ground := Ground.textOnly Departure.lateStores }, { on := 6, ground := Ground.textOnly Departure.lateStores }, { on := 7, ground := Ground.phase }], guard := none }) (by kernel_rfl) rfl (by rfl) (fun w0 hO hX K hK => ?_)
    have hF := hO; (try simp only [Own, Item.Holds, apartI, CellsAt, Nat.reduceAdd, Nat.zero_add, List.mem_cons, List.not_mem_nil, or_false, forall_eq_or_imp, forall_eq, ne_eq, false_imp_iff, implies_true, and_true] at hF); ((try (have hc1 := hO.int_at (x := pk0) [5, 6, 4, 7, 5, 3] (by first | exact List.mem_cons_self | exact List.mem_cons_of_mem _ List.mem_cons_self) lo0 (by simpa using hi0); rw [hy0] at hc1)))
    go_simp
    apply hK _ _ _ (XR13 r (0 + 30) 1)
    (repeat (first | (with_reducible exact hO) | (with_reducible apply Own.alloc) | (with_reducible apply Own.drew) | ((with_reducible apply Own.set_at); (focus (show _ ≤ _; omega)))))
    · first | exact trivial | exact hX | exact hX.below (below1 _) | exact RdIf.gone | exact hX.keep ((Below.refl _ _).setCell (by first | omega | (dsimp only; omega)) _)
    · exact (by first | exact XStab.true | exact XStab.rd | exact XStab.rdIf)
    · first | exact fun _ _ h => h.2 | exact fun _ _ h => h | exact fun h => absurd h (by decide)
    try simp only [upd, updI, List.map_cons, List.map_nil, eq_self, if_true, if_false, reduceIte, Nat.add_eq_left, Nat.left_eq_add, Nat.reduceEqDiff, List.set_cons_zero, List.set_cons_succ, hF]
    clear hK K hF hO
    try simp only [Act.put, List.setIfInBounds_toArray, List.set_cons_zero, List.set_cons_succ]
    refine Sim.takeP (i := 9) (d := some 4) (v := ?_) rfl rfl (by kernel_rfl) (by kernel_rfl) (by kernel_rfl) (fun _ _ _ h => h) (by first | exact XStab.true | exact XStab.rd | exact XStab.rdIf) ?_ ?_
    rotate_left
    · first | refine Or.inl ⟨by rfl, fun w => ?_⟩ | (refine Or.inr ⟨by rfl, ?_⟩; with_reducible rfl)
      first | done | (go_simp; all_goals with_reducible rfl)
    try simp only [Act.put, List.setIfInBounds_toArray, List.set_cons_zero, List.set_cons_succ]
    refine Sim.done (by kernel_rfl) (fun w1 hO hX => ?_) _
    (try simp only [World.size_alloc1, World.size_drew, Nat.reduceAdd] at hO); (try simp only [upd, updI, List.map_cons, List.map_nil, eq_self, if_true, if_false, reduceIte, Nat.add_eq_left, Nat.left_eq_add, Nat.reduceEqDiff, List.set_cons_zero, List.set_cons_succ] at hO)
    have hF := hO; (try simp only [Own, Item.Holds, apartI, CellsAt, Nat.reduceAdd, Nat.zero_add, List.mem_cons, List.not_mem_nil, or_false, forall_eq_or_imp, forall_eq, ne_eq, false_imp_iff, implies_true, and_true] at hF)
    rotate_left 1
    have hF := hO; (try simp only [Own, Item.Holds, apartI, CellsAt, Nat.reduceAdd, Nat.zero_add, List.mem_cons, List.not_mem_nil, or_false, forall_eq_or_imp, forall_eq, ne_eq, false_imp_iff, implies_true, and_true] at hF); ((try (have hc1 := hO.int_at (x := pk0) [5, 6, 4, 7, 5, 3] (by first | exact List.mem_cons_self | exact List.mem_cons_of_mem _ List.mem_cons_self) lo0 (by simpa using hi0); rw [hy0] at hc1)))
    go_simp
    apply hK _ _ _ (XR13 r (0 + 30) 1)
    (repeat (first | (with_reducible exact hO) | (with_reducible apply Own.alloc) | (with_reducible apply Own.drew) | ((with_reducible apply Own.set_at); (focus (show _ ≤ _; omega)))))
    · first | exact trivial | exact hX | exact hX.below (below1 _) | exact RdIf.gone | exact hX.keep ((Below.refl _ _).setCell (by first | omega | (dsimp only; omega)) _)
    · exact (by first | exact XStab.true | exact XStab.rd | exact XStab.rdIf)
    · first | exact fun _ _ h => h.2 | exact fun _ _ h => h | exact fun h => absurd h (by decide)
    try simp only [upd, updI, List.map_cons, List.map_nil, eq_self, if_true, if_false, reduceIte, Nat.add_eq_left, Nat.left_eq_add, Nat.reduceEqDiff, List.set_cons_zero, List.set_cons_succ, hF]
    clear hK K hF hO
    try simp only [Act.put, List.setIfInBounds_toArray, List.set_cons_zero, List.set_cons_succ]
    refine Sim.take (i := 6) (d := some 25) (v := ?_) rfl rfl (by kernel_rfl) (by kernel_rfl) (by kernel_rfl) (by kernel_rfl) (fun _ _ _ h => h) (by first | exact XStab.true | exact XStab.rd | exact XStab.rdIf) ?_ ?_
    rotate_left
    · first | refine Or.inl ⟨by rfl, fun w hO => ?_⟩ | (refine Or.inr ⟨by rfl, ?_⟩; with_reducible rfl)
      first | done | (have hF := hO; (try simp only [Own, Item.Holds, apartI, CellsAt, Nat.reduceAdd, Nat.zero_add, List.mem_cons, List.not_mem_nil, or_false, forall_eq_or_imp, forall_eq, ne_eq, false_imp_iff, implies_true, and_true] at hF); ((try (have hc1 := hO.int_at (x := pk0) [5, 6, 4, 7, 5, 3] (by first | exact List.mem_cons_self | exact List.mem_cons_of_mem _ List.mem_cons_self) lo0 (by simpa using hi0); rw [hy0] at hc1))); refine Out.same ?_; go_simp; all_goals with_reducible rfl)
    try simp only [Act.put, List.setIfInBounds_toArray, List.set_cons_zero, List.set_cons_succ]
    refine Sim.takeP (i := 9) (d := some 4) (v := ?_) rfl rfl (by kernel_rfl) (by kernel_rfl) (by kernel_rfl) (fun _ _ _ h => h) (by first | exact XStab.true | exact XStab.rd | exact XStab.rdIf) ?_ ?_
    rotate_left
    · first | refine Or.inl ⟨by rfl, fun w => ?_⟩ | (refine Or.inr ⟨by rfl, ?_⟩; with_reducible rfl)
      first | done | (go_simp; all_goals with_reducible rfl)
    try simp only [Act.put, List.setIfInBounds_toArray, List.set_cons_zero, List.set_cons_succ]
    refine Sim.done (by kernel_rfl) (fun w1 hO hX => ?_) _
    (try simp only [World.size_alloc1, World.size_drew, Nat.reduceAdd] at hO); (try simp only [upd, updI, List.map_cons, List.map_nil, eq_self, if_true, if_false, reduceIte, Nat.add_eq_left, Nat.left_eq_add, Nat.reduceEqDiff, List.set_cons_zero, List.set_cons_succ] at hO)
    have hF := hO; (try simp only [Own, Item.Holds, apartI, CellsAt, Nat.reduceAdd, Nat.zero_add, List.mem_cons, List.not_mem_nil, or_false, forall_eq_or_imp, forall_eq, ne_eq, false_imp_iff, implies_true, and_true] at hF)
    rotate_left 1
    have hF := hO; (try simp only [Own, Item.Holds, apartI, CellsAt, Nat.reduceAdd, Nat.zero_add, List.mem_cons, List.not_mem_nil, or_false, forall_eq_or_imp, forall_eq, ne_eq, false_imp_iff, implies_true, and_true] at hF); ((try (have hc1 := hO.int_at (x := pk0) [5, 6, 4, 7, 5, 3] (by first | exact List.mem_cons_self | exact List.mem_cons_of_mem _ List.mem_cons_self) lo0 (by simpa using hi0); rw [hy0] at hc1)))
    go_simp
    apply hK _ _ _ (XR13 r (0 + 30) 1)
    (repeat (first | (with_reducible exact hO) | (with_reducible apply Own.alloc) | (with_reducible apply Own.drew) | ((with_reducible apply Own.set_at); (focus (show _ ≤ _; omega)))))
    · first | exact trivial | exact hX | exact hX.below (below1 _) | exact RdIf.gone | exact hX.keep ((Below.refl _ _).setCell (by first | omega | (dsimp only; omega)) _)
    · exact (by first | exact XStab.true | exact XStab.rd | exact XStab.rdIf)
    · first | exact fun _ _ h => h.2 | exact fun _ _ h => h | exact fun h => absurd h (by decide)
    try simp only [upd, updI, List.map_cons, List.map_nil, eq_self, if_true, if_false, reduceIte, Nat.add_eq_left, Nat.left_eq_add, Nat.reduceEqDiff, List.set_cons_zero, List.set_cons_succ, hF]
    clear hK K hF hO
    try simp only [Act.put, List.setIfInBounds_toArray, List.set_cons_zero, List.set_cons_succ]
    refine Sim.one' (i := 2) (oi := { dst := some 21, op := Op.buildSlice 34 6 #[(0, Operand.const (Value.int IntKind.i64 5)), (1, Operand.const (Value.int IntKind.i64 6)), (2, Operand.const (Value.int IntKind.i64 4)), (3, Operand.const (Value.int IntKind.i64 7)), (4, Operand.const (Value.int IntKind.i64 5)), (5, Operand.const (Value.int IntKind.i64 3))], type := 34, pos := "l20_draw.go:685", after := #[{ on := 8, ground := Ground.gcOnly Departure.lateStores }], guard := none }) (by kernel_rfl) rfl (by rfl) (fun w0 hO hX K hK => ?_)
    (have hF := hO; (try simp only [Own, Item.Holds, apartI, CellsAt, Nat.reduceAdd, Nat.zero_add, List.mem_cons, List.not_mem_nil, or_false, forall_eq_or_imp, forall_eq, ne_eq, false_imp_iff, implies_true, and_true] at hF))
    try (have hq := Rd.lt (show Rd _ r (0 + 30) from hX))
    go_simp
    apply hK _ _ _ (XR13 r (0 + 30) 1)
    · exact Own.alloc hO
    · first | exact trivial | exact Rd.below hX (below1 _)
    · first | exact XStab.true | exact XStab.rd
    · first | exact fun _ _ h => h.2 | exact fun h => absurd h (by decide)
    clear hO hF
    clear hK K
    try simp only [Act.put, List.setIfInBounds_toArray, List.set_cons_zero, List.set_cons_succ]
    refine Sim.takeP (i := 5) (d := some 24) (v := ?_) rfl rfl (by kernel_rfl) (by kernel_rfl) (by kernel_rfl) (fun _ _ _ h => h) (by first | exact XStab.true | exact XStab.rd | exact XStab.rdIf) ?_ ?_
    rotate_left
    · first | refine Or.inl ⟨by rfl, fun w => ?_⟩ | (refine Or.inr ⟨by rfl, ?_⟩; with_reducible rfl)
      first | done | (go_simp; all_goals with_reducible rfl)
    try simp only [Act.put, List.setIfInBounds_toArray, List.set_cons_zero, List.set_cons_succ]
    refine Sim.take (i := 6) (d := some 25) (v := ?_) rfl rfl (by kernel_rfl) (by kernel_rfl) (by kernel_rfl) (by kernel_rfl) (fun _ _ _ h => h) (by first | exact XStab.true | exact XStab.rd | exact XStab.rdIf) ?_ ?_
    rotate_left
    · first | refine Or.inl ⟨by rfl, fun w hO => ?_⟩ | (refine Or.inr ⟨by rfl, ?_⟩; with_reducible rfl)
      first | done | (have hF := hO; (try simp only [Own, Item.Holds, apartI, CellsAt, Nat.reduceAdd, Nat.zero_add, List.mem_cons, List.not_mem_nil, or_false, forall_eq_or_imp, forall_eq, ne_eq, false_imp_iff, implies_true, and_true] at hF); ((try (have hc1 := hO.int_at (x := pk0) [5, 6, 4, 7, 5, 3] (by first | exact List.mem_cons_self | exact List.mem_cons_of_mem _ List.mem_cons_self) lo0 (by simpa using hi0); rw [hy0] at hc1))); refine Out.same ?_; go_simp; all_goals with_reducible rfl)
    try simp only [Act.put, List.setIfInBounds_toArray, List.set_cons_zero, List.set_cons_succ]
    refine Sim.takeP (i := 9) (d := some 4) (v := ?_) rfl rfl (by kernel_rfl) (by kernel_rfl) (by kernel_rfl) (fun _ _ _ h => h) (by first | exact XStab.true | exact XStab.rd | exact XStab.rdIf) ?_ ?_
    rotate_left
    · first | refine Or.inl ⟨by rfl, fun w => ?_⟩ | (refine Or.inr ⟨by rfl, ?_⟩; with_reducible rfl)
      first | done | (go_simp; all_goals with_reducible rfl)
    try simp only [Act.put, List.setIfInBounds_toArray, List.set_cons_zero, List.set_cons_succ]
    refine Sim.done (by kernel_rfl) (fun w1 hO hX => ?_) _
    (try simp only [World.size_alloc1, World.size_drew, Nat.reduceAdd] at hO); (try simp only [upd, updI, List.map_cons, List.map_nil, eq_self, if_true, if_false, reduceIte, Nat.add_eq_left, Nat.left_eq_add, Nat.reduceEqDiff, List.set_cons_zero, List.set_cons_succ] at hO)
    have hF := hO; (try simp only [Own, Item.Holds, apartI, CellsAt, Nat.reduceAdd, Nat.zero_add, List.mem_cons, List.not_mem_nil, or_false, forall_eq_or_imp, forall_eq, ne_eq, false_imp_iff, implies_true, and_true] at hF)
    rotate_left 1
    (have hF := hO; (try simp only [Own, Item.Holds, apartI, CellsAt, Nat.reduceAdd, Nat.zero_add, List.mem_cons, List.not_mem_nil, or_false, forall_eq_or_imp, forall_eq, ne_eq, false_imp_iff, implies_true, and_true] at hF))
    try (have hq := Rd.lt (show Rd _ r (0 + 30) from hX))
    go_simp
    apply hK _ _ _ (XR13 r (0 + 30) 0)
    · exact Own.alloc hO
    · first | exact trivial | exact Rd.below hX (below1 _)
    · first | exact XStab.true | exact XStab.rd
    · first | exact fun _ _ h => h.2 | exact fun h => absurd h (by decide)
    clear hO hF
    clear hK K
    try simp only [Act.put, List.setIfInBounds_toArray, List.set_cons_zero, List.set_cons_succ]
    refine Sim.take (i := 1) (d := some 20) (v := ?_) rfl rfl (by kernel_rfl) (by kernel_rfl) (by kernel_rfl) (by kernel_rfl) (fun _ _ _ h => h) (by first | exact XStab.true | exact XStab.rd | exact XStab.rdIf) ?_ ?_
    rotate_left
    · first | refine Or.inl ⟨by rfl, fun w hO => ?_⟩ | (refine Or.inr ⟨by rfl, ?_⟩; with_reducible rfl)
      first | done | (have hF := hO; (try simp only [Own, Item.Holds, apartI, CellsAt, Nat.reduceAdd, Nat.zero_add, List.mem_cons, List.not_mem_nil, or_false, forall_eq_or_imp, forall_eq, ne_eq, false_imp_iff, implies_true, and_true] at hF); ((try (have hc1 := hO.int_at (x := pk0) [5, 6, 4, 7, 5, 3] (by first | exact List.mem_cons_self | exact List.mem_cons_of_mem _ List.mem_cons_self) lo0 (by simpa using hi0); rw [hy0] at hc1))); refine Out.same ?_; go_simp; all_goals with_reducible rfl)
    try simp only [Act.put, List.setIfInBounds_toArray, List.set_cons_zero, List.set_cons_succ]
    refine Sim.one' (i := 4) (oi := { dst := some 23, op := Op.call { callee := Callee.value (Operand.func 44), args := #[Operand.tmp 22, Operand.const (Value.int IntKind.i64 6)], argTypes := #[62, 3] }, type := 3, pos := "l20_draw.go:685", after := #[{ on := 3, ground := Ground.data }], guard := none }) (by kernel_rfl) rfl (by rfl) (fun w0 hO hX K hK => ?_)
    have hF := hO; (try simp only [Own, Item.Holds, apartI, CellsAt, Nat.reduceAdd, Nat.zero_add, List.mem_cons, List.not_mem_nil, or_false, forall_eq_or_imp, forall_eq, ne_eq, false_imp_iff, implies_true, and_true] at hF)
    go_simp
    refine (pick_any r (0 + 30) _ _ hX (by omega) (by decide) (by decide)).mono ?_
    rintro e wa ⟨pk0, lo0, hi0, rfl, hR7, hB7⟩
    obtain ⟨y0, hy0⟩ : ∃ y, ([5, 6, 4, 7, 5, 3] : List Int).getD pk0.toNat 0 = y := ⟨_, rfl⟩
    apply hK _ _ _ (XR13 r (0 + 30) 1)
    · exact Own.drawn hB7 hr0 (by first | exact ne_two13 (by omega) (by omega) | exact ne_three13 (by omega) (by omega) (by omega)) hO
    · exact trivial
    · exact XStab.true
    · exact fun _ _ h => h
    clear hR7 hB7
    clear hK K hF hO
    try simp only [Act.put, List.setIfInBounds_toArray, List.set_cons_zero, List.set_cons_succ]
    refine Sim.takeP (i := 5) (d := some 24) (v := ?_) rfl rfl (by kernel_rfl) (by kernel_rfl) (by kernel_rfl) (fun _ _ _ h => h) (by first | exact XStab.true | exact XStab.rd | exact XStab.rdIf) ?_ ?_
    rotate_left
    · first | refine Or.inl ⟨by rfl, fun w => ?_⟩ | (refine Or.inr ⟨by rfl, ?_⟩; with_reducible rfl)
      first | done | (go_simp; all_goals with_reducible rfl)
    try simp only [Act.put, List.setIfInBounds_toArray, List.set_cons_zero, List.set_cons_succ]
    refine Sim.takeP (i := 7) (d := some 2) (v := ?_) rfl rfl (by kernel_rfl) (by kernel_rfl) (by kernel_rfl) (fun _ _ _ h => h) (by first | exact XStab.true | exact XStab.rd | exact XStab.rdIf) ?_ ?_
    rotate_left
    · first | refine Or.inl ⟨by rfl, fun w => ?_⟩ | (refine Or.inr ⟨by rfl, ?_⟩; with_reducible rfl)
      first | done | (go_simp; all_goals with_reducible rfl)
    try simp only [Act.put, List.setIfInBounds_toArray, List.set_cons_zero, List.set_cons_succ]
    refine Sim.many (rs := [6, 8]) (by kernel_rfl) (by decide) ?_
    refine AllS.cons (oi := { dst := some 25, op := Op.load 3 (Operand.tmp 24), type := 3, pos := "l20_draw.go:685", after := #[{ on := 5, ground := Ground.data }, { on := 8, ground := Ground.gcOnly Departure.lateStores }], guard := none }) rfl (by rfl) (fun w0 hO hX K hK => ?_) ?_
    rotate_left
    refine AllS.cons (oi := { dst := none, op := Op.store 24 (Operand.tmp 3) (Operand.tmp 20), type := 0, pos := "l20_draw.go:685", after := #[{ on := 1, ground := Ground.data }, { on := 7, ground := Ground.chain }, { on := 0, ground := Ground.phase }, { on := 1, ground := Ground.phase }, { on := 2, ground := Ground.textOnly Departure.lateStores }, { on := 3, ground := Ground.textOnly Departure.lateStores }, { on := 4, ground := Ground.textOnly Departure.lateStoresUnsure }, { on := 5, ground := Ground.textOnly Departure.lateStores }, { on := 6, ground := Ground.textOnly Departure.lateStores }, { on := 7, ground := Ground.phase }], guard := none }) rfl (by rfl) (fun w0 hO hX K hK => ?_) ?_
    rotate_left
    exact AllS.nil
    rotate_right 2
    have hF := hO; (try simp only [Own, Item.Holds, apartI, CellsAt, Nat.reduceAdd, Nat.zero_add, List.mem_cons, List.not_mem_nil, or_false, forall_eq_or_imp, forall_eq, ne_eq, false_imp_iff, implies_true, and_true] at hF); ((try (have hc1 := hO.int_at (x := pk0) [5, 6, 4, 7, 5, 3] (by first | exact List.mem_cons_self | exact List.mem_cons_of_mem _ List.mem_cons_self) lo0 (by simpa using hi0); rw [hy0] at hc1)))
    go_simp
    apply hK _ _ _ (XR13 r (0 + 30) 1)
    (repeat (first | (with_reducible exact hO) | (with_reducible apply Own.alloc) | (with_reducible apply Own.drew) | ((with_reducible apply Own.set_at); (focus (show _ ≤ _; omega)))))
    · first | exact trivial | exact hX | exact hX.below (below1 _) | exact RdIf.gone | exact hX.keep ((Below.refl _ _).setCell (by first | omega | (dsimp only; omega)) _)
    · exact (by first | exact XStab.true | exact XStab.rd | exact XStab.rdIf)
    · first | exact fun _ _ h => h.2 | exact fun _ _ h => h | exact fun h => absurd h (by decide)
    try simp only [upd, updI, List.map_cons, List.map_nil, eq_self, if_true, if_false, reduceIte, Nat.add_eq_left, Nat.left_eq_add, Nat.reduceEqDiff, List.set_cons_zero, List.set_cons_succ, hF]
    clear hK K hF hO
    try simp only [Act.put, List.setIfInBounds_toArray, List.set_cons_zero, List.set_cons_succ]
    refine Sim.one' (i := 8) (oi := { dst := none, op := Op.store 24 (Operand.tmp 3) (Operand.tmp 20), type := 0, pos := "l20_draw.go:685", after := #[{ on := 1, ground := Ground.data }, { on := 7, ground := Ground.chain }, { on := 0, ground := Ground.phase }, { on := 1, ground := Ground.phase }, { on := 2, ground := Ground.textOnly Departure.lateStores }, { on := 3, ground := Ground.textOnly Departure.lateStores }, { on := 4, ground := Ground.textOnly Departure.lateStoresUnsure }, { on := 5, ground := Ground.textOnly Departure.lateStores }, { on := 6, ground := Ground.textOnly Departure.lateStores }, { on := 7, ground := Ground.phase }], guard := none }) (by kernel_rfl) rfl (by rfl) (fun w0 hO hX K hK => ?_)
    have hF := hO; (try simp only [Own, Item.Holds, apartI, CellsAt, Nat.reduceAdd, Nat.zero_add, List.mem_cons, List.not_mem_nil, or_false, forall_eq_or_imp, forall_eq, ne_eq, false_imp_iff, implies_true, and_true] at hF); ((try (have hc1 := hO.int_at (x := pk0) [5, 6, 4, 7, 5, 3] (by first | exact List.mem_cons_self | exact List.mem_cons_of_mem _ List.mem_cons_self) lo0 (by simpa using hi0); rw [hy0] at hc1)))
    go_simp
    apply hK _ _ _ (XR13 r (0 + 30) 1)
    (repeat (first | (with_reducible exact hO) | (with_reducible apply Own.alloc) | (with_reducible apply Own.drew) | ((with_reducible apply Own.set_at); (focus (show _ ≤ _; omega)))))
    · first | exact trivial | exact hX | exact hX.below (below1 _) | exact RdIf.gone | exact hX.keep ((Below.refl _ _).setCell (by first | omega | (dsimp only; omega)) _)
    · exact (by first | exact XStab.true | exact XStab.rd | exact XStab.rdIf)
    · first | exact fun _ _ h => h.2 | exact fun _ _ h => h | exact fun h => absurd h (by decide)
    try simp only [upd, updI, List.map_cons, List.map_nil, eq_self, if_true, if_false, reduceIte, Nat.add_eq_left, Nat.left_eq_add, Nat.reduceEqDiff, List.set_cons_zero, List.set_cons_succ, hF]
    clear hK K hF hO
    try simp only [Act.put, List.setIfInBounds_toArray, List.set_cons_zero, List.set_cons_succ]
    refine Sim.takeP (i := 9) (d := some 4) (v := ?_) rfl rfl (by kernel_rfl) (by kernel_rfl) (by kernel_rfl) (fun _ _ _ h => h) (by first | exact XStab.true | exact XStab.rd | exact XStab.rdIf) ?_ ?_
    rotate_left
    · first | refine Or.inl ⟨by rfl, fun w => ?_⟩ | (refine Or.inr ⟨by rfl, ?_⟩; with_reducible rfl)
      first | done | (go_simp; all_goals with_reducible rfl)
    try simp only [Act.put, List.setIfInBounds_toArray, List.set_cons_zero, List.set_cons_succ]
    refine Sim.done (by kernel_rfl) (fun w1 hO hX => ?_) _
    (try simp only [World.size_alloc1, World.size_drew, Nat.reduceAdd] at hO); (try simp only [upd, updI, List.map_cons, List.map_nil, eq_self, if_true, if_false, reduceIte, Nat.add_eq_left, Nat.left_eq_add, Nat.reduceEqDiff, List.set_cons_zero, List.set_cons_succ] at hO)
    have hF := hO; (try simp only [Own, Item.Holds, apartI, CellsAt, Nat.reduceAdd, Nat.zero_add, List.mem_cons, List.not_mem_nil, or_false, forall_eq_or_imp, forall_eq, ne_eq, false_imp_iff, implies_true, and_true] at hF)
    rotate_left 1
    have hF := hO; (try simp only [Own, Item.Holds, apartI, CellsAt, Nat.reduceAdd, Nat.zero_add, List.mem_cons, List.not_mem_nil, or_false, forall_eq_or_imp, forall_eq, ne_eq, false_imp_iff, implies_true, and_true] at hF); ((try (have hc1 := hO.int_at (x := pk0) [5, 6, 4, 7, 5, 3] (by first | exact List.mem_cons_self | exact List.mem_cons_of_mem _ List.mem_cons_self) lo0 (by simpa using hi0); rw [hy0] at hc1)))
    go_simp
    apply hK _ _ _ (XR13 r (0 + 30) 1)
    (repeat (first | (with_reducible exact hO) | (with_reducible apply Own.alloc) | (with_reducible apply Own.drew) | ((with_reducible apply Own.set_at); (focus (show _ ≤ _; omega)))))
    · first | exact trivial | exact hX | exact hX.below (below1 _) | exact RdIf.gone | exact hX.keep ((Below.refl _ _).setCell (by first | omega | (dsimp only; omega)) _)
    · exact (by first | exact XStab.true | exact XStab.rd | exact XStab.rdIf)
    · first | exact fun _ _ h => h.2 | exact fun _ _ h => h | exact fun h => absurd h (by decide)
    try simp only [upd, updI, List.map_cons, List.map_nil, eq_self, if_true, if_false, reduceIte, Nat.add_eq_left, Nat.left_eq_add, Nat.reduceEqDiff, List.set_cons_zero, List.set_cons_succ, hF]
    clear hK K hF hO
    try simp only [Act.put, List.setIfInBounds_toArray, List.set_cons_zero, List.set_cons_succ]
    refine Sim.take (i := 6) (d := some 25) (v := ?_) rfl rfl (by kernel_rfl) (by kernel_rfl) (by kernel_rfl) (by kernel_rfl) (fun _ _ _ h => h) (by first | exact XStab.true | exact XStab.rd | exact XStab.rdIf) ?_ ?_
    rotate_left
    · first | refine Or.inl ⟨by rfl, fun w hO => ?_⟩ | (refine Or.inr ⟨by rfl, ?_⟩; with_reducible rfl)
      first | done | (have hF := hO; (try simp only [Own, Item.Holds, apartI, CellsAt, Nat.reduceAdd, Nat.zero_add, List.mem_cons, List.not_mem_nil, or_false, forall_eq_or_imp, forall_eq, ne_eq, false_imp_iff, implies_true, and_true] at hF); ((try (have hc1 := hO.int_at (x := pk0) [5, 6, 4, 7, 5, 3] (by first | exact List.mem_cons_self | exact List.mem_cons_of_mem _ List.mem_cons_self) lo0 (by simpa using hi0); rw [hy0] at hc1))); refine Out.same ?_; go_simp; all_goals with_reducible rfl)
    try simp only [Act.put, List.setIfInBounds_toArray, List.set_cons_zero, List.set_cons_succ]
    refine Sim.takeP (i := 9) (d := some 4) (v := ?_) rfl rfl (by kernel_rfl) (by kernel_rfl) (by kernel_rfl) (fun _ _ _ h => h) (by first | exact XStab.true | exact XStab.rd | exact XStab.rdIf) ?_ ?_
    rotate_left
    · first | refine Or.inl ⟨by rfl, fun w => ?_⟩ | (refine Or.inr ⟨by rfl, ?_⟩; with_reducible rfl)
      first | done | (go_simp; all_goals with_reducible rfl)
    try simp only [Act.put, List.setIfInBounds_toArray, List.set_cons_zero, List.set_cons_succ]
    refine Sim.done (by kernel_rfl) (fun w1 hO hX => ?_) _
    (try simp only [World.size_alloc1, World.size_drew, Nat.reduceAdd] at hO); (try simp only [upd, updI, List.map_cons, List.map_nil, eq_self, if_true, if_false, reduceIte, Nat.add_eq_left, Nat.left_eq_add, Nat.reduceEqDiff, List.set_cons_zero, List.set_cons_succ] at hO)
    have hF := hO; (try simp only [Own, Item.Holds, apartI, CellsAt, Nat.reduceAdd, Nat.zero_add, List.mem_cons, List.not_mem_nil, or_false, forall_eq_or_imp, forall_eq, ne_eq, false_imp_iff, implies_true, and_true] at hF)
    rotate_left 1
    have hF := hO; (try simp only [Own, Item.Holds, apartI, CellsAt, Nat.reduceAdd, Nat.zero_add, List.mem_cons, List.not_mem_nil, or_false, forall_eq_or_imp, forall_eq, ne_eq, false_imp_iff, implies_true, and_true] at hF)
    go_simp
    refine (pick_any r (0 + 30) _ _ hX (by omega) (by decide) (by decide)).mono ?_
    rintro e wa ⟨pk0, lo0, hi0, rfl, hR7, hB7⟩
    obtain ⟨y0, hy0⟩ : ∃ y, ([5, 6, 4, 7, 5, 3] : List Int).getD pk0.toNat 0 = y := ⟨_, rfl⟩
    apply hK _ _ _ (XR13 r (0 + 30) 1)
    · exact Own.drawn hB7 hr0 (by first | exact ne_two13 (by omega) (by omega) | exact ne_three13 (by omega) (by omega) (by omega)) hO
    · exact trivial
    · exact XStab.true
    · exact fun _ _ h => h
    clear hR7 hB7
    clear hK K hF hO
    try simp only [Act.put, List.setIfInBounds_toArray, List.set_cons_zero, List.set_cons_succ]
    refine Sim.takeP (i := 7) (d := some 2) (v := ?_) rfl rfl (by kernel_rfl) (by kernel_rfl) (by kernel_rfl) (fun _ _ _ h => h) (by first | exact XStab.true | exact XStab.rd | exact XStab.rdIf) ?_ ?_
    rotate_left
    · first | refine Or.inl ⟨by rfl, fun w => ?_⟩ | (refine Or.inr ⟨by rfl, ?_⟩; with_reducible rfl)
      first | done | (go_simp; all_goals with_reducible rfl)
    try simp only [Act.put, List.setIfInBounds_toArray, List.set_cons_zero, List.set_cons_succ]
    refine Sim.many (rs := [1, 2]) (by kernel_rfl) (by decide) ?_
    refine AllS.cons (oi := { dst := some 20, op := Op.load 24 (Operand.tmp 7), type := 24, pos := "l20_draw.go:685", after := #[{ on := 7, ground := Ground.gcOnly Departure.lateStores }], guard := none }) rfl (by rfl) (fun w0 hO hX K hK => ?_) ?_
    rotate_left
    refine AllS.cons (oi := { dst := some 21, op := Op.buildSlice 34 6 #[(0, Operand.const (Value.int IntKind.i64 5)), (1, Operand.const (Value.int IntKind.i64 6)), (2, Operand.const (Value.int IntKind.i64 4)), (3, Operand.const (Value.int IntKind.i64 7)), (4, Operand.const (Value.int IntKind.i64 5)), (5, Operand.const (Value.int IntKind.i64 3))], type := 34, pos := "l20_draw.go:685", after := #[{ on := 8, ground := Ground.gcOnly Departure.lateStores }], guard := none }) rfl (by rfl) (fun w0 hO hX K hK => ?_) ?_
    rotate_left
    exact AllS.nil
    rotate_right 2
    have hF := hO; (try simp only [Own, Item.Holds, apartI, CellsAt, Nat.reduceAdd, Nat.zero_add, List.mem_cons, List.not_mem_nil, or_false, forall_eq_or_imp, forall_eq, ne_eq, false_imp_iff, implies_true, and_true] at hF); ((try (have hc1 := hO.int_at (x := pk0) [5, 6, 4, 7, 5, 3] (by first | exact List.mem_cons_self | exact List.mem_cons_of_mem _ List.mem_cons_self) lo0 (by simpa using hi0); rw [hy0] at hc1)))
    go_simp
    apply hK _ _ _ (XR13 r (0 + 30) 1)
    (repeat (first | (with_reducible exact hO) | (with_reducible apply Own.alloc) | (with_reducible apply Own.drew) | ((with_reducible apply Own.set_at); (focus (show _ ≤ _; omega)))))
    · first | exact trivial | exact hX | exact hX.below (below1 _) | exact RdIf.gone | exact hX.keep ((Below.refl _ _).setCell (by first | omega | (dsimp only; omega)) _)
    · exact (by first | exact XStab.true | exact XStab.rd | exact XStab.rdIf)
    · first | exact fun _ _ h => h.2 | exact fun _ _ h => h | exact fun h => absurd h (by decide)
    try simp only [upd, updI, List.map_cons, List.map_nil, eq_self, if_true, if_false, reduceIte, Nat.add_eq_left, Nat.left_eq_add, Nat.reduceEqDiff, List.set_cons_zero, List.set_cons_succ, hF]
    clear hK K hF hO
    try simp only [Act.put, List.setIfInBounds_toArray, List.set_cons_zero, List.set_cons_succ]
    refine Sim.many (rs := [2, 8]) (by kernel_rfl) (by decide) ?_
    refine AllS.cons (oi := { dst := some 21, op := Op.buildSlice 34 6 #[(0, Operand.const (Value.int IntKind.i64 5)), (1, Operand.const (Value.int IntKind.i64 6)), (2, Operand.const (Value.int IntKind.i64 4)), (3, Operand.const (Value.int IntKind.i64 7)), (4, Operand.const (Value.int IntKind.i64 5)), (5, Operand.const (Value.int IntKind.i64 3))], type := 34, pos := "l20_draw.go:685", after := #[{ on := 8, ground := Ground.gcOnly Departure.lateStores }], guard := none }) rfl (by rfl) (fun w0 hO hX K hK => ?_) ?_
    rotate_left
    refine AllS.cons (oi := { dst := none, op := Op.store 24 (Operand.tmp 3) (Operand.tmp 20), type := 0, pos := "l20_draw.go:685", after := #[{ on := 1, ground := Ground.data }, { on := 7, ground := Ground.chain }, { on := 0, ground := Ground.phase }, { on := 1, ground := Ground.phase }, { on := 2, ground := Ground.textOnly Departure.lateStores }, { on := 3, ground := Ground.textOnly Departure.lateStores }, { on := 4, ground := Ground.textOnly Departure.lateStoresUnsure }, { on := 5, ground := Ground.textOnly Departure.lateStores }, { on := 6, ground := Ground.textOnly Departure.lateStores }, { on := 7, ground := Ground.phase }], guard := none }) rfl (by rfl) (fun w0 hO hX K hK => ?_) ?_
    rotate_left
    exact AllS.nil
    rotate_right 2
    (have hF := hO; (try simp only [Own, Item.Holds, apartI, CellsAt, Nat.reduceAdd, Nat.zero_add, List.mem_cons, List.not_mem_nil, or_false, forall_eq_or_imp, forall_eq, ne_eq, false_imp_iff, implies_true, and_true] at hF))
    try (have hq := Rd.lt (show Rd _ r (0 + 30) from hX))
    go_simp
    apply hK _ _ _ (XR13 r (0 + 30) 1)
    · exact Own.alloc hO
    · first | exact trivial | exact Rd.below hX (below1 _)
    · first | exact XStab.true | exact XStab.rd
    · first | exact fun _ _ h => h.2 | exact fun h => absurd h (by decide)
    clear hO hF
    clear hK K
    try simp only [Act.put, List.setIfInBounds_toArray, List.set_cons_zero, List.set_cons_succ]
    refine Sim.takeP (i := 5) (d := some 24) (v := ?_) rfl rfl (by kernel_rfl) (by kernel_rfl) (by kernel_rfl) (fun _ _ _ h => h) (by first | exact XStab.true | exact XStab.rd | exact XStab.rdIf) ?_ ?_
    rotate_left
    · first | refine Or.inl ⟨by rfl, fun w => ?_⟩ | (refine Or.inr ⟨by rfl, ?_⟩; with_reducible rfl)
      first | done | (go_simp; all_goals with_reducible rfl)
    try simp only [Act.put, List.setIfInBounds_toArray, List.set_cons_zero, List.set_cons_succ]
    refine Sim.many (rs := [6, 8]) (by kernel_rfl) (by decide) ?_
    refine AllS.cons (oi := { dst := some 25, op := Op.load 3 (Operand.tmp 24), type := 3, pos := "l20_draw.go:685", after := #[{ on := 5, ground := Ground.data }, { on := 8, ground := Ground.gcOnly Departure.lateStores }], guard := none }) rfl (by rfl) (fun w0 hO hX K hK => ?_) ?_
    rotate_left
    refine AllS.cons (oi := { dst := none, op := Op.store 24 (Operand.tmp 3) (Operand.tmp 20), type := 0, pos := "l20_draw.go:685", after := #[{ on := 1, ground := Ground.data }, { on := 7, ground := Ground.chain }, { on := 0, ground := Ground.phase }, { on := 1, ground := Ground.phase }, { on := 2, ground := Ground.textOnly Departure.lateStores }, { on := 3, ground := Ground.textOnly Departure.lateStores }, { on := 4, ground := Ground.textOnly Departure.lateStoresUnsure }, { on := 5, ground := Ground.textOnly Departure.lateStores }, { on := 6, ground := Ground.textOnly Departure.lateStores }, { on := 7, ground := Ground.phase }], guard := none }) rfl (by rfl) (fun w0 hO hX K hK => ?_) ?_
    rotate_left
    exact AllS.nil
    rotate_right 2
    have hF := hO; (try simp only [Own, Item.Holds, apartI, CellsAt, Nat.reduceAdd, Nat.zero_add, List.mem_cons, List.not_mem_nil, or_false, forall_eq_or_imp, forall_eq, ne_eq, false_imp_iff, implies_true, and_true] at hF); ((try (have hc1 := hO.int_at (x := pk0) [5, 6, 4, 7, 5, 3] (by first | exact List.mem_cons_self | exact List.mem_cons_of_mem _ List.mem_cons_self) lo0 (by simpa using hi0); rw [hy0] at hc1)))
    go_simp
    apply hK _ _ _ (XR13 r (0 + 30) 1)
    (repeat (first | (with_reducible exact hO) | (with_reducible apply Own.alloc) | (with_reducible apply Own.drew) | ((with_reducible apply Own.set_at); (focus (show _ ≤ _; omega)))))
    · first | exact trivial | exact hX | exact hX.below (below1 _) | exact RdIf.gone | exact hX.keep ((Below.refl _ _).setCell (by first | omega | (dsimp only; omega)) _)
    · exact (by first | exact XStab.true | exact XStab.rd | exact XStab.rdIf)
    · first | exact fun _ _ h => h.2 | exact fun _ _ h => h | exact fun h => absurd h (by decide)
    try simp only [upd, updI, List.map_cons, List.map_nil, eq_self, if_true, if_false, reduceIte, Nat.add_eq_left, Nat.left_eq_add, Nat.reduceEqDiff, List.set_cons_zero, List.set_cons_succ, hF]
    clear hK K hF hO
    try simp only [Act.put, List.setIfInBounds_toArray, List.set_cons_zero, List.set_cons_succ]
    refine Sim.one' (i := 8) (oi := { dst := none, op := Op.store 24 (Operand.tmp 3) (Operand.tmp 20), type := 0, pos := "l20_draw.go:685", after := #[{ on := 1, ground := Ground.data }, { on := 7, ground := Ground.chain }, { on := 0, ground := Ground.phase }, { on := 1, ground := Ground.phase }, { on := 2, ground := Ground.textOnly Departure.lateStores }, { on := 3, ground := Ground.textOnly Departure.lateStores }, { on := 4, ground := Ground.textOnly Departure.lateStoresUnsure }, { on := 5, ground := Ground.textOnly Departure.lateStores }, { on := 6, ground := Ground.textOnly Departure.lateStores }, { on := 7, ground := Ground.phase }], guard := none }) (by kernel_rfl) rfl (by rfl) (fun w0 hO hX K hK => ?_)
    have hF := hO; (try simp only [Own, Item.Holds, apartI, CellsAt, Nat.reduceAdd, Nat.zero_add, List.mem_cons, List.not_mem_nil, or_false, forall_eq_or_imp, forall_eq, ne_eq, false_imp_iff, implies_true, and_true] at hF); ((try (have hc1 := hO.int_at (x := pk0) [5, 6, 4, 7, 5, 3] (by first | exact List.mem_cons_self | exact List.mem_cons_of_mem _ List.mem_cons_self) lo0 (by simpa using hi0); rw [hy0] at hc1)))
    go_simp
    apply hK _ _ _ (XR13 r (0 + 30) 1)
    (repeat (first | (with_reducible exact hO) | (with_reducible apply Own.alloc) | (with_reducible apply Own.drew) | ((with_reducible apply Own.set_at); (focus (show _ ≤ _; omega)))))
    · first | exact trivial | exact hX | exact hX.below (below1 _) | exact RdIf.gone | exact hX.keep ((Below.refl _ _).setCell (by first | omega | (dsimp only; omega)) _)
    · exact (by first | exact XStab.true | exact XStab.rd | exact XStab.rdIf)
    · first | exact fun _ _ h => h.2 | exact fun _ _ h => h | exact fun h => absurd h (by decide)
    try simp only [upd, updI, List.map_cons, List.map_nil, eq_self, if_true, if_false, reduceIte, Nat.add_eq_left, Nat.left_eq_add, Nat.reduceEqDiff, List.set_cons_zero, List.set_cons_succ, hF]
    clear hK K hF hO
    try simp only [Act.put, List.setIfInBounds_toArray, List.set_cons_zero, List.set_cons_succ]
    refine Sim.takeP (i := 9) (d := some 4) (v := ?_) rfl rfl (by kernel_rfl) (by kernel_rfl) (by kernel_rfl) (fun _ _ _ h => h) (by first | exact XStab.true | exact XStab.rd | exact XStab.rdIf) ?_ ?_
    rotate_left
    · first | refine Or.inl ⟨by rfl, fun w => ?_⟩ | (refine Or.inr ⟨by rfl, ?_⟩; with_reducible rfl)
      first | done | (go_simp; all_goals with_reducible rfl)
    try simp only [Act.put, List.setIfInBounds_toArray, List.set_cons_zero, List.set_cons_succ]
    refine Sim.done (by kernel_rfl) (fun w1 hO hX => ?_) _
    (try simp only [World.size_alloc1, World.size_drew, Nat.reduceAdd] at hO); (try simp only [upd, updI, List.map_cons, List.map_nil, eq_self, if_true, if_false, reduceIte, Nat.add_eq_left, Nat.left_eq_add, Nat.reduceEqDiff, List.set_cons_zero, List.set_cons_succ] at hO)
    have hF := hO; (try simp only [Own, Item.Holds, apartI, CellsAt, Nat.reduceAdd, Nat.zero_add, List.mem_cons, List.not_mem_nil, or_false, forall_eq_or_imp, forall_eq, ne_eq, false_imp_iff, implies_true, and_true] at hF)
    rotate_left 1
    have hF := hO; (try simp only [Own, Item.Holds, apartI, CellsAt, Nat.reduceAdd, Nat.zero_add, List.mem_cons, List.not_mem_nil, or_false, forall_eq_or_imp, forall_eq, ne_eq, false_imp_iff, implies_true, and_true] at hF); ((try (have hc1 := hO.int_at (x := pk0) [5, 6, 4, 7, 5, 3] (by first | exact List.mem_cons_self | exact List.mem_cons_of_mem _ List.mem_cons_self) lo0 (by simpa using hi0); rw [hy0] at hc1)))
    go_simp
    apply hK _ _ _ (XR13 r (0 + 30) 1)
    (repeat (first | (with_reducible exact hO) | (with_reducible apply Own.alloc) | (with_reducible apply Own.drew) | ((with_reducible apply Own.set_at); (focus (show _ ≤ _; omega)))))
    · first | exact trivial | exact hX | exact hX.below (below1 _) | exact RdIf.gone | exact hX.keep ((Below.refl _ _).setCell (by first | omega | (dsimp only; omega)) _)
    · exact (by first | exact XStab.true | exact XStab.rd | exact XStab.rdIf)
    · first | exact fun _ _ h => h.2 | exact fun _ _ h => h | exact fun h => absurd h (by decide)
    try simp only [upd, updI, List.map_cons, List.map_nil, eq_self, if_true, if_false, reduceIte, Nat.add_eq_left, Nat.left_eq_add, Nat.reduceEqDiff, List.set_cons_zero, List.set_cons_succ, hF]
    clear hK K hF hO
    try simp only [Act.put, List.setIfInBounds_toArray, List.set_cons_zero, List.set_cons_succ]
    refine Sim.take (i := 6) (d := some 25) (v := ?_) rfl rfl (by kernel_rfl) (by kernel_rfl) (by kernel_rfl) (by kernel_rfl) (fun _ _ _ h => h) (by first | exact XStab.true | exact XStab.rd | exact XStab.rdIf) ?_ ?_
    rotate_left
    · first | refine Or.inl ⟨by rfl, fun w hO => ?_⟩ | (refine Or.inr ⟨by rfl, ?_⟩; with_reducible rfl)
      first | done | (have hF := hO; (try simp only [Own, Item.Holds, apartI, CellsAt, Nat.reduceAdd, Nat.zero_add, List.mem_cons, List.not_mem_nil, or_false, forall_eq_or_imp, forall_eq, ne_eq, false_imp_iff, implies_true, and_true] at hF); ((try (have hc1 := hO.int_at (x := pk0) [5, 6, 4, 7, 5, 3] (by first | exact List.mem_cons_self | exact List.mem_cons_of_mem _ List.mem_cons_self) lo0 (by simpa using hi0); rw [hy0] at hc1))); refine Out.same ?_; go_simp; all_goals with_reducible rfl)
    try simp only [Act.put, List.setIfInBounds_toArray, List.set_cons_zero, List.set_cons_succ]
    refine Sim.takeP (i := 9) (d := some 4) (v := ?_) rfl rfl (by kernel_rfl) (by kernel_rfl) (by kernel_rfl) (fun _ _ _ h => h) (by first | exact XStab.true | exact XStab.rd | exact XStab.rdIf) ?_ ?_
    rotate_left
    · first | refine Or.inl ⟨by rfl, fun w => ?_⟩ | (refine Or.inr ⟨by rfl, ?_⟩; with_reducible rfl)
      first | done | (go_simp; all_goals with_reducible rfl)
    try simp only [Act.put, List.setIfInBounds_toArray, List.set_cons_zero, List.set_cons_succ]
    refine Sim.done (by kernel_rfl) (fun w1 hO hX => ?_) _
    (try simp only [World.size_alloc1, World.size_drew, Nat.reduceAdd] at hO); (try simp only [upd, updI, List.map_cons, List.map_nil, eq_self, if_true, if_false, reduceIte, Nat.add_eq_left, Nat.left_eq_add, Nat.reduceEqDiff, List.set_cons_zero, List.set_cons_succ] at hO)
    have hF := hO; (try simp only [Own, Item.Holds, apartI, CellsAt, Nat.reduceAdd, Nat.zero_add, List.mem_cons, List.not_mem_nil, or_false, forall_eq_or_imp, forall_eq, ne_eq, false_imp_iff, implies_true, and_true] at hF)
    rotate_left 1
    have hF := hO; (try simp only [Own, Item.Holds, apartI, CellsAt, Nat.reduceAdd, Nat.zero_add, List.mem_cons, List.not_mem_nil, or_false, forall_eq_or_imp, forall_eq, ne_eq, false_imp_iff, implies_true, and_true] at hF); ((try (have hc1 := hO.int_at (x := pk0) [5, 6, 4, 7, 5, 3] (by first | exact List.mem_cons_self | exact List.mem_cons_of_mem _ List.mem_cons_self) lo0 (by simpa using hi0); rw [hy0] at hc1)))
    go_simp
    apply hK _ _ _ (XR13 r (0 + 30) 1)
    (repeat (first | (with_reducible exact hO) | (with_reducible apply Own.alloc) | (with_reducible apply Own.drew) | ((with_reducible apply Own.set_at); (focus (show _ ≤ _; omega)))))
    · first | exact trivial | exact hX | exact hX.below (below1 _) | exact RdIf.gone | exact hX.keep ((Below.refl _ _).setCell (by first | omega | (dsimp only; omega)) _)
    · exact (by first | exact XStab.true | exact XStab.rd | exact XStab.rdIf)
    · first | exact fun _ _ h => h.2 | exact fun _ _ h => h | exact fun h => absurd h (by decide)
    try simp only [upd, updI, List.map_cons, List.map_nil, eq_self, if_true, if_false, reduceIte, Nat.add_eq_left, Nat.left_eq_add, Nat.reduceEqDiff, List.set_cons_zero, List.set_cons_succ, hF]
    clear hK K hF hO
    try simp only [Act.put, List.setIfInBounds_toArray, List.set_cons_zero, List.set_cons_succ]
    refine Sim.one' (i := 2) (oi := { dst := some 21, op := Op.buildSlice 34 6 #[(0, Operand.const (Value.int IntKind.i64 5)), (1, Operand.const (Value.int IntKind.i64 6)), (2, Operand.const (Value.int IntKind.i64 4)), (3, Operand.const (Value.int IntKind.i64 7)), (4, Operand.const (Value.int IntKind.i64 5)), (5, Operand.const (Value.int IntKind.i64 3))], type := 34, pos := "l20_draw.go:685", after := #[{ on := 8, ground := Ground.gcOnly Departure.lateStores }], guard := none }) (by kernel_rfl) rfl (by rfl) (fun w0 hO hX K hK => ?_)
    (have hF := hO; (try simp only [Own, Item.Holds, apartI, CellsAt, Nat.reduceAdd, Nat.zero_add, List.mem_cons, List.not_mem_nil, or_false, forall_eq_or_imp, forall_eq, ne_eq, false_imp_iff, implies_true, and_true] at hF))
    try (have hq := Rd.lt (show Rd _ r (0 + 30) from hX))
    go_simp
    apply hK _ _ _ (XR13 r (0 + 30) 1)
    · exact Own.alloc hO
    · first | exact trivial | exact Rd.below hX (below1 _)
    · first | exact XStab.true | exact XStab.rd
    · first | exact fun _ _ h => h.2 | exact fun h => absurd h (by decide)
    clear hO hF
    clear hK K
    try simp only [Act.put, List.setIfInBounds_toArray, List.set_cons_zero, List.set_cons_succ]
    refine Sim.takeP (i := 5) (d := some 24) (v := ?_) rfl rfl (by kernel_rfl) (by kernel_rfl) (by kernel_rfl) (fun _ _ _ h => h) (by first | exact XStab.true | exact XStab.rd | exact XStab.rdIf) ?_ ?_
    rotate_left
    · first | refine Or.inl ⟨by rfl, fun w => ?_⟩ | (refine Or.inr ⟨by rfl, ?_⟩; with_reducible rfl)
      first | done | (go_simp; all_goals with_reducible rfl)
    try simp only [Act.put, List.setIfInBounds_toArray, List.set_cons_zero, List.set_cons_succ]
    refine Sim.take (i := 6) (d := some 25) (v := ?_) rfl rfl (by kernel_rfl) (by kernel_rfl) (by kernel_rfl) (by kernel_rfl) (fun _ _ _ h => h) (by first | exact XStab.true | exact XStab.rd | exact XStab.rdIf) ?_ ?_
    rotate_left
    · first | refine Or.inl ⟨by rfl, fun w hO => ?_⟩ | (refine Or.inr ⟨by rfl, ?_⟩; with_reducible rfl)
      first | done | (have hF := hO; (try simp only [Own, Item.Holds, apartI, CellsAt, Nat.reduceAdd, Nat.zero_add, List.mem_cons, List.not_mem_nil, or_false, forall_eq_or_imp, forall_eq, ne_eq, false_imp_iff, implies_true, and_true] at hF); ((try (have hc1 := hO.int_at (x := pk0) [5, 6, 4, 7, 5, 3] (by first | exact List.mem_cons_self | exact List.mem_cons_of_mem _ List.mem_cons_self) lo0 (by simpa using hi0); rw [hy0] at hc1))); refine Out.same ?_; go_simp; all_goals with_reducible rfl)
    try simp only [Act.put, List.setIfInBounds_toArray, List.set_cons_zero, List.set_cons_succ]
    refine Sim.takeP (i := 9) (d := some 4) (v := ?_) rfl rfl (by kernel_rfl) (by kernel_rfl) (by kernel_rfl) (fun _ _ _ h => h) (by first | exact XStab.true | exact XStab.rd | exact XStab.rdIf) ?_ ?_
    rotate_left
    · first | refine Or.inl ⟨by rfl, fun w => ?_⟩ | (refine Or.inr ⟨by rfl, ?_⟩; with_reducible rfl)
      first | done | (go_simp; all_goals with_reducible rfl)
    try simp only [Act.put, List.setIfInBounds_toArray, List.set_cons_zero, List.set_cons_succ]
    refine Sim.done (by kernel_rfl) (fun w1 hO hX => ?_) _
    (try simp only [World.size_alloc1, World.size_drew, Nat.reduceAdd] at hO); (try simp only [upd, updI, List.map_cons, List.map_nil, eq_self, if_true, if_false, reduceIte, Nat.add_eq_left, Nat.left_eq_add, Nat.reduceEqDiff, List.set_cons_zero, List.set_cons_succ] at hO)
    have hF := hO; (try simp only [Own, Item.Holds, apartI, CellsAt, Nat.reduceAdd, Nat.zero_add, List.mem_cons, List.not_mem_nil, or_false, forall_eq_or_imp, forall_eq, ne_eq, false_imp_iff, implies_true, and_true] at hF)
    rotate_left 1
    (have hF := hO; (try simp only [Own, Item.Holds, apartI, CellsAt, Nat.reduceAdd, Nat.zero_add, List.mem_cons, List.not_mem_nil, or_false, forall_eq_or_imp, forall_eq, ne_eq, false_imp_iff, implies_true, and_true] at hF))
    try (have hq := Rd.lt (show Rd _ r (0 + 30) from hX))
    go_simp
    apply hK _ _ _ (XR13 r (0 + 30) 1)
    · exact Own.alloc hO
    · first | exact trivial | exact Rd.below hX (below1 _)
    · first | exact XStab.true | exact XStab.rd
    · first | exact fun _ _ h => h.2 | exact fun h => absurd h (by decide)
    clear hO hF
    clear hK K
    try simp only [Act.put, List.setIfInBounds_toArray, List.set_cons_zero, List.set_cons_succ]
    refine Sim.take (i := 1) (d := some 20) (v := ?_) rfl rfl (by kernel_rfl) (by kernel_rfl) (by kernel_rfl) (by kernel_rfl) (fun _ _ _ h => h) (by first | exact XStab.true | exact XStab.rd | exact XStab.rdIf) ?_ ?_
    rotate_left
    · first | refine Or.inl ⟨by rfl, fun w hO => ?_⟩ | (refine Or.inr ⟨by rfl, ?_⟩; with_reducible rfl)
      first | done | (have hF := hO; (try simp only [Own, Item.Holds, apartI, CellsAt, Nat.reduceAdd, Nat.zero_add, List.mem_cons, List.not_mem_nil, or_false, forall_eq_or_imp, forall_eq, ne_eq, false_imp_iff, implies_true, and_true] at hF); ((try (have hc1 := hO.int_at (x := pk0) [5, 6, 4, 7, 5, 3] (by first | exact List.mem_cons_self | exact List.mem_cons_of_mem _ List.mem_cons_self) lo0 (by simpa using hi0); rw [hy0] at hc1))); refine Out.same ?_; go_simp; all_goals with_reducible rfl)
    try simp only [Act.put, List.setIfInBounds_toArray, List.set_cons_zero, List.set_cons_succ]
    refine Sim.takeP (i := 5) (d := some 24) (v := ?_) rfl rfl (by kernel_rfl) (by kernel_rfl) (by kernel_rfl) (fun _ _ _ h => h) (by first | exact XStab.true | exact XStab.rd | exact XStab.rdIf) ?_ ?_
    rotate_left
    · first | refine Or.inl ⟨by rfl, fun w => ?_⟩ | (refine Or.inr ⟨by rfl, ?_⟩; with_reducible rfl)
      first | done | (go_simp; all_goals with_reducible rfl)
    try simp only [Act.put, List.setIfInBounds_toArray, List.set_cons_zero, List.set_cons_succ]
    refine Sim.many (rs := [6, 8]) (by kernel_rfl) (by decide) ?_
    refine AllS.cons (oi := { dst := some 25, op := Op.load 3 (Operand.tmp 24), type := 3, pos := "l20_draw.go:685", after := #[{ on := 5, ground := Ground.data }, { on := 8, ground := Ground.gcOnly Departure.lateStores }], guard := none }) rfl (by rfl) (fun w0 hO hX K hK => ?_) ?_
    rotate_left
    refine AllS.cons (oi := { dst := none, op := Op.store 24 (Operand.tmp 3) (Operand.tmp 20), type := 0, pos := "l20_draw.go:685", after := #[{ on := 1, ground := Ground.data }, { on := 7, ground := Ground.chain }, { on := 0, ground := Ground.phase }, { on := 1, ground := Ground.phase }, { on := 2, ground := Ground.textOnly Departure.lateStores }, { on := 3, ground := Ground.textOnly Departure.lateStores }, { on := 4, ground := Ground.textOnly Departure.lateStoresUnsure }, { on := 5, ground := Ground.textOnly Departure.lateStores }, { on := 6, ground := Ground.textOnly Departure.lateStores }, { on := 7, ground := Ground.phase }], guard := none }) rfl (by rfl) (fun w0 hO hX K hK => ?_) ?_
    rotate_left
    exact AllS.nil
    rotate_right 2
    have hF := hO; (try simp only [Own, Item.Holds, apartI, CellsAt, Nat.reduceAdd, Nat.zero_add, List.mem_cons, List.not_mem_nil, or_false, forall_eq_or_imp, forall_eq, ne_eq, false_imp_iff, implies_true, and_true] at hF); ((try (have hc1 := hO.int_at (x := pk0) [5, 6, 4, 7, 5, 3] (by first | exact List.mem_cons_self | exact List.mem_cons_of_mem _ List.mem_cons_self) lo0 (by simpa using hi0); rw [hy0] at hc1)))
    go_simp
    apply hK _ _ _ (XR13 r (0 + 30) 1)
    (repeat (first | (with_reducible exact hO) | (with_reducible apply Own.alloc) | (with_reducible apply Own.drew) | ((with_reducible apply Own.set_at); (focus (show _ ≤ _; omega)))))
    · first | exact trivial | exact hX | exact hX.below (below1 _) | exact RdIf.gone | exact hX.keep ((Below.refl _ _).setCell (by first | omega | (dsimp only; omega)) _)
    · exact (by first | exact XStab.true | exact XStab.rd | exact XStab.rdIf)
    · first | exact fun _ _ h => h.2 | exact fun _ _ h => h | exact fun h => absurd h (by decide)
    try simp only [upd, updI, List.map_cons, List.map_nil, eq_self, if_true, if_false, reduceIte, Nat.add_eq_left, Nat.left_eq_add, Nat.reduceEqDiff, List.set_cons_zero, List.set_cons_succ, hF]
    clear hK K hF hO
    try simp only [Act.put, List.setIfInBounds_toArray, List.set_cons_zero, List.set_cons_succ]
    refine Sim.one' (i := 8) (oi := { dst := none, op := Op.store 24 (Operand.tmp 3) (Operand.tmp 20), type := 0, pos := "l20_draw.go:685", after := #[{ on := 1, ground := Ground.data }, { on := 7, ground := Ground.chain }, { on := 0, ground := Ground.phase }, { on := 1, ground := Ground.phase }, { on := 2, ground := Ground.textOnly Departure.lateStores }, { on := 3, ground := Ground.textOnly Departure.lateStores }, { on := 4, ground := Ground.textOnly Departure.lateStoresUnsure }, { on := 5, ground := Ground.textOnly Departure.lateStores }, { on := 6, ground := Ground.textOnly Departure.lateStores }, { on := 7, ground := Ground.phase }], guard := none }) (by kernel_rfl) rfl (by rfl) (fun w0 hO hX K hK => ?_)
    have hF := hO; (try simp only [Own, Item.Holds, apartI, CellsAt, Nat.reduceAdd, Nat.zero_add, List.mem_cons, List.not_mem_nil, or_false, forall_eq_or_imp, forall_eq, ne_eq, false_imp_iff, implies_true, and_true] at hF); ((try (have hc1 := hO.int_at (x := pk0) [5, 6, 4, 7, 5, 3] (by first | exact List.mem_cons_self | exact List.mem_cons_of_mem _ List.mem_cons_self) lo0 (by simpa using hi0); rw [hy0] at hc1)))
    go_simp
    apply hK _ _ _ (XR13 r (0 + 30) 1)
    (repeat (first | (with_reducible exact hO) | (with_reducible apply Own.alloc) | (with_reducible apply Own.drew) | ((with_reducible apply Own.set_at); (focus (show _ ≤ _; omega)))))
    · first | exact trivial | exact hX | exact hX.below (below1 _) | exact RdIf.gone | exact hX.keep ((Below.refl _ _).setCell (by first | omega | (dsimp only; omega)) _)
    · exact (by first | exact XStab.true | exact XStab.rd | exact XStab.rdIf)
    · first | exact fun _ _ h => h.2 | exact fun _ _ h => h | exact fun h => absurd h (by decide)
    try simp only [upd, updI, List.map_cons, List.map_nil, eq_self, if_true, if_false, reduceIte, Nat.add_eq_left, Nat.left_eq_add, Nat.reduceEqDiff, List.set_cons_zero, List.set_cons_succ, hF]
    clear hK K hF hO
    try simp only [Act.put, List.setIfInBounds_toArray, List.set_cons_zero, List.set_cons_succ]
    refine Sim.takeP (i := 9) (d := some 4) (v := ?_) rfl rfl (by kernel_rfl) (by kernel_rfl) (by kernel_rfl) (fun _ _ _ h => h) (by first | exact XStab.true | exact XStab.rd | exact XStab.rdIf) ?_ ?_
    rotate_left
    · first | refine Or.inl ⟨by rfl, fun w => ?_⟩ | (refine Or.inr ⟨by rfl, ?_⟩; with_reducible rfl)
      first | done | (go_simp; all_goals with_reducible rfl)
    try simp only [Act.put, List.setIfInBounds_toArray, List.set_cons_zero, List.set_cons_succ]
    refine Sim.done (by kernel_rfl) (fun w1 hO hX => ?_) _
    (try simp only [World.size_alloc1, World.size_drew, Nat.reduceAdd] at hO); (try simp only [upd, updI, List.map_cons, List.map_nil, eq_self, if_true, if_false, reduceIte, Nat.add_eq_left, Nat.left_eq_add, Nat.reduceEqDiff, List.set_cons_zero, List.set_cons_succ] at hO)
    have hF := hO; (try simp only [Own, Item.Holds, apartI, CellsAt, Nat.reduceAdd, Nat.zero_add, List.mem_cons, List.not_mem_nil, or_false, forall_eq_or_imp, forall_eq, ne_eq, false_imp_iff, implies_true, and_true] at hF)
    rotate_left 1
    have hF := hO; (try simp only [Own, Item.Holds, apartI, CellsAt, Nat.reduceAdd, Nat.zero_add, List.mem_cons, List.not_mem_nil, or_false, forall_eq_or_imp, forall_eq, ne_eq, false_imp_iff, implies_true, and_true] at hF); ((try (have hc1 := hO.int_at (x := pk0) [5, 6, 4, 7, 5, 3] (by first | exact List.mem_cons_self | exact List.mem_cons_of_mem _ List.mem_cons_self) lo0 (by simpa using hi0); rw [hy0] at hc1)))
    go_simp
    apply hK _ _ _ (XR13 r (0 + 30) 1)
    (repeat (first | (with_reducible exact hO) | (with_reducible apply Own.alloc) | (with_reducible apply Own.drew) | ((with_reducible apply Own.set_at); (focus (show _ ≤ _; omega)))))
    · first | exact trivial | exact hX | exact hX.below (below1 _) | exact RdIf.gone | exact hX.keep ((Below.refl _ _).setCell (by first | omega | (dsimp only; omega)) _)
    · exact (by first | exact XStab.true | exact XStab.rd | exact XStab.rdIf)
    · first | exact fun _ _ h => h.2 | exact fun _ _ h => h | exact fun h => absurd h (by decide)
    try simp only [upd, updI, List.map_cons, List.map_nil, eq_self, if_true, if_false, reduceIte, Nat.add_eq_left, Nat.left_eq_add, Nat.reduceEqDiff, List.set_cons_zero, List.set_cons_succ, hF]
    clear hK K hF hO
    try simp only [Act.put, List.setIfInBounds_toArray, List.set_cons_zero, List.set_cons_succ]
    refine Sim.take (i := 6) (d := some 25) (v := ?_) rfl rfl (by kernel_rfl) (by kernel_rfl) (by kernel_rfl) (by kernel_rfl) (fun _ _ _ h => h) (by first | exact XStab.true | exact XStab.rd | exact XStab.rdIf) ?_ ?_
    rotate_left
    · first | refine Or.inl ⟨by rfl, fun w hO => ?_⟩ | (refine Or.inr ⟨by rfl, ?_⟩; with_reducible rfl)
      first | done | (have hF := hO; (try simp only [Own, Item.Holds, apartI, CellsAt, Nat.reduceAdd, Nat.zero_add, List.mem_cons, List.not_mem_nil, or_false, forall_eq_or_imp, forall_eq, ne_eq, false_imp_iff, implies_true, and_true] at hF); ((try (have hc1 := hO.int_at (x := pk0) [5, 6, 4, 7, 5, 3] (by first | exact List.mem_cons_self | exact List.mem_cons_of_mem _ List.mem_cons_self) lo0 (by simpa using hi0); rw [hy0] at hc1))); refine Out.same ?_; go_simp; all_goals with_reducible rfl)
    try simp only [Act.put, List.setIfInBounds_toArray, List.set_cons_zero, List.set_cons_succ]
    refine Sim.takeP (i := 9) (d := some 4) (v := ?_) rfl rfl (by kernel_rfl) (by kernel_rfl) (by kernel_rfl) (fun _ _ _ h => h) (by first | exact XStab.true | exact XStab.rd | exact XStab.rdIf) ?_ ?_
    rotate_left
    · first | refine Or.inl ⟨by rfl, fun w => ?_⟩ | (refine Or.inr ⟨by rfl, ?_⟩; with_reducible rfl)
      first | done | (go_simp; all_goals with_reducible rfl)
    try simp only [Act.put, List.setIfInBounds_toArray, List.set_cons_zero, List.set_cons_succ]
    refine Sim.done (by kernel_rfl) (fun w1 hO hX => ?_) _
    (try simp only [World.size_alloc1, World.size_drew, Nat.reduceAdd] at hO); (try simp only [upd, updI, List.map_cons, List.map_nil, eq_self, if_true, if_false, reduceIte, Nat.add_eq_left, Nat.left_eq_add, Nat.reduceEqDiff, List.set_cons_zero, List.set_cons_succ] at hO)
    have hF := hO; (try simp only [Own, Item.Holds, apartI, CellsAt, Nat.reduceAdd, Nat.zero_add, List.mem_cons, List.not_mem_nil, or_false, forall_eq_or_imp, forall_eq, ne_eq, false_imp_iff, implies_true, and_true] at hF)
    rotate_left 1
    all_goals
      have HY := hid (fg6_bd lo0 (by omega) hy0)
      clear hy0 lo0 hi0
      go_wp2_with fail
      apply own_end hO
      (repeat (first | (with_reducible exact hO) | (with_reducible apply Own.alloc) | (with_reducible apply Own.drew) | ((with_reducible apply Own.set_at); (focus (show _ ≤ _; omega)))))
      have hG := hF; clear hF; clear hO; intro hO
      refine own_ret (v := .tuple #[.int .i64 f, .agg #[.int .i64 s, .int .i64 a, .int .i64 o], .int .i64 y0]) hO ?_ rfl (fun hO => ⟨f, ⟨s, a, o⟩, y0, HF.out, HX.out, HY.out, rfl, hO.base⟩)
      clear hO; intro w1 hO
      (try simp only [World.size_alloc1, World.size_drew, Nat.reduceAdd] at hO); (try simp only [upd, updI, List.map_cons, List.map_nil, eq_self, if_true, if_false, reduceIte, Nat.add_eq_left, Nat.left_eq_add, Nat.reduceEqDiff, List.set_cons_zero, List.set_cons_succ, hG] at hO); clear hG
      have hF := hO; (try simp only [Own, Item.Holds, apartI, CellsAt, Nat.reduceAdd, Nat.zero_add, List.mem_cons, List.not_mem_nil, or_false, forall_eq_or_imp, forall_eq, ne_eq, false_imp_iff, implies_true, and_true] at hF)
      simp [results, Tryd.results10, go_sem, hF]
  · go_wp2_with fail
    refine (l20Pitch_any r (0 + 4 + 2 + 1) 2 _ hR4 (by omega) (by omega) (by omega)).mono ?_
    rintro e w5 ⟨s', a', o', hs', ha', ho', rfl, hR5, hB5⟩
    have HY := hid (show ptOk ⟨s', a', o'⟩ from ⟨hs', ha', ho'⟩)
    replace hO := hO.drawn hB5 hr0 (ne_two13 (by omega) (by omega))
    have hX5 : Rd w5 r (0 + 30) := hR5.mono (by omega)
    have hG := hF
    (try simp only [World.size_alloc1, World.size_drew, Nat.reduceAdd] at hO); (try simp only [upd, updI, List.map_cons, List.map_nil, eq_self, if_true, if_false, reduceIte, Nat.add_eq_left, Nat.left_eq_add, Nat.reduceEqDiff, List.set_cons_zero, List.set_cons_succ, hG] at hO); clear hG
    clear hF hR4 hR5 hB5 hs' ha' ho'
    have hF := hO; (try simp only [Own, Item.Holds, apartI, CellsAt, Nat.reduceAdd, Nat.zero_add, List.mem_cons, List.not_mem_nil, or_false, forall_eq_or_imp, forall_eq, ne_eq, false_imp_iff, implies_true, and_true] at hF)
    go_wp2_with fail
    have hX : XR13 r (0 + 30) 0 (((w5.setCell ⟨w3.heap.size, 0, none⟩ (Value.int .i64 s')).setCell ⟨w3.heap.size, 1, none⟩ (Value.int .i64 a')).setCell ⟨w3.heap.size, 2, none⟩ (Value.int .i64 o')) := hX5.keep ((((Below.refl (r + 1) w5).setCell (p := ⟨w3.heap.size, 0, none⟩) (by show r + 1 ≤ w3.heap.size; omega) (Value.int .i64 s')).setCell (p := ⟨w3.heap.size, 1, none⟩) (by show r + 1 ≤ w3.heap.size; omega) (Value.int .i64 a')).setCell (p := ⟨w3.heap.size, 2, none⟩) (by show r + 1 ≤ w3.heap.size; omega) (Value.int .i64 o'))
    apply own_code hO
    (repeat (first | (with_reducible exact hO) | (with_reducible apply Own.alloc) | (with_reducible apply Own.drew) | ((with_reducible apply Own.set_at); (focus (show _ ≤ _; omega)))))
    have hG := hF; clear hF; clear hO; intro hO
    (try simp only [World.size_alloc1, World.size_drew, Nat.reduceAdd] at hO); (try simp only [upd, updI, List.map_cons, List.map_nil, eq_self, if_true, if_false, reduceIte, Nat.add_eq_left, Nat.left_eq_add, Nat.reduceEqDiff, List.set_cons_zero, List.set_cons_succ, hG] at hO); clear hG
    refine region_own (X := XR13 r (0 + 30) 0) [2, 8] (by kernel_rfl) (hO) (hX) (by first | exact XStab.true | exact XStab.rd | exact XStab.rdIf) ?_
    clear hO
    refine Sim.takeP (i := 0) (d := some 19) (v := ?_) rfl rfl (by kernel_rfl) (by kernel_rfl) (by kernel_rfl) (fun _ _ _ h => h) (by first | exact XStab.true | exact XStab.rd | exact XStab.rdIf) ?_ ?_
    rotate_left
    · first | refine Or.inl ⟨by rfl, fun w => ?_⟩ | (refine Or.inr ⟨by rfl, ?_⟩; with_reducible rfl)
      first | done | (go_simp; all_goals with_reducible rfl)
    try simp only [Act.put, List.setIfInBounds_toArray, List.set_cons_zero, List.set_cons_succ]
    refine Sim.takeP (i := 3) (d := some 22) (v := ?_) rfl rfl (by kernel_rfl) (by kernel_rfl) (by kernel_rfl) (fun _ _ _ h => h) (by first | exact XStab.true | exact XStab.rd | exact XStab.rdIf) ?_ ?_
    rotate_left
    · first | refine Or.inl ⟨by rfl, fun w => ?_⟩ | (refine Or.inr ⟨by rfl, ?_⟩; with_reducible rfl)
      first | done | (go_simp; all_goals with_reducible rfl)
    try simp only [Act.put, List.setIfInBounds_toArray, List.set_cons_zero, List.set_cons_succ]
    refine Sim.many (rs := [1, 2, 4]) (by kernel_rfl) (by decide) ?_
    refine AllS.cons (oi := { dst := some 20, op := Op.load 24 (Operand.tmp 7), type := 24, pos := "l20_draw.go:685", after := #[{ on := 7, ground := Ground.gcOnly Departure.lateStores }], guard := none }) rfl (by rfl) (fun w0 hO hX K hK => ?_) ?_
    rotate_left
    refine AllS.cons (oi := { dst := some 21, op := Op.buildSlice 34 6 #[(0, Operand.const (Value.int IntKind.i64 5)), (1, Operand.const (Value.int IntKind.i64 6)), (2, Operand.const (Value.int IntKind.i64 4)), (3, Operand.const (Value.int IntKind.i64 7)), (4, Operand.const (Value.int IntKind.i64 5)), (5, Operand.const (Value.int IntKind.i64 3))], type := 34, pos := "l20_draw.go:685", after := #[{ on := 8, ground := Ground.gcOnly Departure.lateStores }], guard := none }) rfl (by rfl) (fun w0 hO hX K hK => ?_) ?_
    rotate_left
    refine AllS.cons (oi := { dst := some 23, op := Op.call { callee := Callee.value (Operand.func 44), args := #[Operand.tmp 22, Operand.const (Value.int IntKind.i64 6)], argTypes := #[62, 3] }, type := 3, pos := "l20_draw.go:685", after := #[{ on := 3, ground := Ground.data }], guard := none }) rfl (by rfl) (fun w0 hO hX K hK => ?_) ?_
    rotate_left
    exact AllS.nil
    rotate_right 3
    have hF := hO; (try simp only [Own, Item.Holds, apartI, CellsAt, Nat.reduceAdd, Nat.zero_add, List.mem_cons, List.not_mem_nil, or_false, forall_eq_or_imp, forall_eq, ne_eq, false_imp_iff, implies_true, and_true] at hF); ((try (have hc1 := hO.int_at (x := pk0) [5, 6, 4, 7, 5, 3] (by first | exact List.mem_cons_self | exact List.mem_cons_of_mem _ List.mem_cons_self) lo0 (by simpa using hi0); rw [hy0] at hc1)))
    go_simp
    apply hK _ _ _ (XR13 r (0 + 30) 0)
    (repeat (first | (with_reducible exact hO) | (with_reducible apply Own.alloc) | (with_reducible apply Own.drew) | ((with_reducible apply Own.set_at); (focus (show _ ≤ _; omega)))))
    · first | exact trivial | exact hX | exact hX.below (below1 _) | exact RdIf.gone | exact hX.keep ((Below.refl _ _).setCell (by first | omega | (dsimp only; omega)) _)
    · exact (by first | exact XStab.true | exact XStab.rd | exact XStab.rdIf)
    · first | exact fun _ _ h => h.2 | exact fun _ _ h => h | exact fun h => absurd h (by decide)
    try simp only [upd, updI, List.map_cons, List.map_nil, eq_self, if_true, if_false, reduceIte, Nat.add_eq_left, Nat.left_eq_add, Nat.reduceEqDiff, List.set_cons_zero, List.set_cons_succ, hF]
    clear hK K hF hO
    try simp only [Act.put, List.setIfInBounds_toArray, List.set_cons_zero, List.set_cons_succ]
    refine Sim.many (rs := [2, 4]) (by kernel_rfl) (by decide) ?_
    refine AllS.cons (oi := { dst := some 21, op := Op.buildSlice 34 6 #[(0, Operand.const (Value.int IntKind.i64 5)), (1, Operand.const (Value.int IntKind.i64 6)), (2, Operand.const (Value.int IntKind.i64 4)), (3, Operand.const (Value.int IntKind.i64 7)), (4, Operand.const (Value.int IntKind.i64 5)), (5, Operand.const (Value.int IntKind.i64 3))], type := 34, pos := "l20_draw.go:685", after := #[{ on := 8, ground := Ground.gcOnly Departure.lateStores }], guard := none }) rfl (by rfl) (fun w0 hO hX K hK => ?_) ?_
    rotate_left
    refine AllS.cons (oi := { dst := some 23, op := Op.call { callee := Callee.value (Operand.func 44), args := #[Operand.tmp 22, Operand.const (Value.int IntKind.i64 6)], argTypes := #[62, 3] }, type := 3, pos := "l20_draw.go:685", after := #[{ on := 3, ground := Ground.data }], guard := none }) rfl (by rfl) (fun w0 hO hX K hK => ?_) ?_
    rotate_left
    exact AllS.nil
    rotate_right 2
    (have hF := hO; (try simp only [Own, Item.Holds, apartI, CellsAt, Nat.reduceAdd, Nat.zero_add, List.mem_cons, List.not_mem_nil, or_false, forall_eq_or_imp, forall_eq, ne_eq, false_imp_iff, implies_true, and_true] at hF))
    try (have hq := Rd.lt (show Rd _ r (0 + 30) from hX))
    go_simp
    apply hK _ _ _ (XR13 r (0 + 30) 0)
    · exact Own.alloc hO
    · first | exact trivial | exact Rd.below hX (below1 _)
    · first | exact XStab.true | exact XStab.rd
    · first | exact fun _ _ h => h.2 | exact fun h => absurd h (by decide)
    clear hO hF
    clear hK K
    try simp only [Act.put, List.setIfInBounds_toArray, List.set_cons_zero, List.set_cons_succ]
    refine Sim.one' (i := 4) (oi := { dst := some 23, op := Op.call { callee := Callee.value (Operand.func 44), args := #[Operand.tmp 22, Operand.const (Value.int IntKind.i64 6)], argTypes := #[62, 3] }, type := 3, pos := "l20_draw.go:685", after := #[{ on := 3, ground := Ground.data }], guard := none }) (by kernel_rfl) rfl (by rfl) (fun w0 hO hX K hK => ?_)
    have hF := hO; (try simp only [Own, Item.Holds, apartI, CellsAt, Nat.reduceAdd, Nat.zero_add, List.mem_cons, List.not_mem_nil, or_false, forall_eq_or_imp, forall_eq, ne_eq, false_imp_iff, implies_true, and_true] at hF)
    go_simp
    refine (pick_any r (0 + 30) _ _ hX (by omega) (by decide) (by decide)).mono ?_
    rintro e wa ⟨pk0, lo0, hi0, rfl, hR7, hB7⟩
    obtain ⟨y0, hy0⟩ : ∃ y, ([5, 6, 4, 7, 5, 3] : List Int).getD pk0.toNat 0 = y := ⟨_, rfl⟩
    apply hK _ _ _ (XR13 r (0 + 30) 1)
    · exact Own.drawn hB7 hr0 (by first | exact ne_two13 (by omega) (by omega) | exact ne_three13 (by omega) (by omega) (by omega)) hO
    · exact trivial
    · exact XStab.true
    · exact fun _ _ h => h
    clear hR7 hB7
    clear hK K hF hO
    try simp only [Act.put, List.setIfInBounds_toArray, List.set_cons_zero, List.set_cons_succ]
    refine Sim.takeP (i := 5) (d := some 24) (v := ?_) rfl rfl (by kernel_rfl) (by kernel_rfl) (by kernel_rfl) (fun _ _ _ h => h) (by first | exact XStab.true | exact XStab.rd | exact XStab.rdIf) ?_ ?_
    rotate_left
    · first | refine Or.inl ⟨by rfl, fun w => ?_⟩ | (refine Or.inr ⟨by rfl, ?_⟩; with_reducible rfl)
      first | done | (go_simp; all_goals with_reducible rfl)
    try simp only [Act.put, List.setIfInBounds_toArray, List.set_cons_zero, List.set_cons_succ]
    refine Sim.takeP (i := 7) (d := some 2) (v := ?_) rfl rfl (by kernel_rfl) (by kernel_rfl) (by kernel_rfl) (fun _ _ _ h => h) (by first | exact XStab.true | exact XStab.rd | exact XStab.rdIf) ?_ ?_
    rotate_left
    · first | refine Or.inl ⟨by rfl, fun w => ?_⟩ | (refine Or.inr ⟨by rfl, ?_⟩; with_reducible rfl)
      first | done | (go_simp; all_goals with_reducible rfl)
    try simp only [Act.put, List.setIfInBounds_toArray, List.set_cons_zero, List.set_cons_succ]
    refine Sim.many (rs := [6, 8]) (by kernel_rfl) (by decide) ?_
    refine AllS.cons (oi := { dst := some 25, op := Op.load 3 (Operand.tmp 24), type := 3, pos := "l20_draw.go:685", after := #[{ on := 5, ground := Ground.data }, { on := 8, ground := Ground.gcOnly Departure.lateStores }], guard := none }) rfl (by rfl) (fun w0 hO hX K hK => ?_) ?_
    rotate_left
    refine AllS.cons (oi := { dst := none, op := Op.store 24 (Operand.tmp 3) (Operand.tmp 20), type := 0, pos := "l20_draw.go:685", after := #[{ on := 1, ground := Ground.data }, { on := 7, ground := Ground.chain }, { on := 0, ground := Ground.phase }, { on := 1, ground := Ground.phase }, { on := 2, ground := Ground.textOnly Departure.lateStores }, { on := 3, ground := Ground.textOnly Departure.lateStores }, { on := 4, ground := Ground.textOnly Departure.lateStoresUnsure }, { on := 5, ground := Ground.textOnly Departure.lateStores }, { on := 6, ground := Ground.textOnly Departure.lateStores }, { on := 7, ground := Ground.phase }], guard := none }) rfl (by rfl) (fun w0 hO hX K hK => ?_) ?_
    rotate_left
    exact AllS.nil
    rotate_right 2
    have hF := hO; (try simp only [Own, Item.Holds, apartI, CellsAt, Nat.reduceAdd, Nat.zero_add, List.mem_cons, List.not_mem_nil, or_false, forall_eq_or_imp, forall_eq, ne_eq, false_imp_iff, implies_true, and_true] at hF); ((try (have hc1 := hO.int_at (x := pk0) [5, 6, 4, 7, 5, 3] (by first | exact List.mem_cons_self | exact List.mem_cons_of_mem _ List.mem_cons_self) lo0 (by simpa using hi0); rw [hy0] at hc1)))
    go_simp
    apply hK _ _ _ (XR13 r (0 + 30) 1)
    (repeat (first | (with_reducible exact hO) | (with_reducible apply Own.alloc) | (with_reducible apply Own.drew) | ((with_reducible apply Own.set_at); (focus (show _ ≤ _; omega)))))
    · first | exact trivial | exact hX | exact hX.below (below1 _) | exact RdIf.gone | exact hX.keep ((Below.refl _ _).setCell (by first | omega | (dsimp only; omega)) _)
    · exact (by first | exact XStab.true | exact XStab.rd | exact XStab.rdIf)
    · first | exact fun _ _ h => h.2 | exact fun _ _ h => h | exact fun h => absurd h (by decide)
    try simp only [upd, updI, List.map_cons, List.map_nil, eq_self, if_true, if_false, reduceIte, Nat.add_eq_left, Nat.left_eq_add, Nat.reduceEqDiff, List.set_cons_zero, List.set_cons_succ, hF]
    clear hK K hF hO
    try simp only [Act.put, List.setIfInBounds_toArray, List.set_cons_zero, List.set_cons_succ]
    refine Sim.one' (i := 8) (oi := { dst := none, op := Op.store 24 (Operand.tmp 3) (Operand.tmp 20), type := 0, pos := "l20_draw.go:685", after := #[{ on := 1, ground := Ground.data }, { on := 7, ground := Ground.chain }, { on := 0, ground := Ground.phase }, { on := 1, ground := Ground.phase }, { on := 2, ground := Ground.textOnly Departure.lateStores }, { on := 3, ground := Ground.textOnly Departure.lateStores }, { on := 4, ground := Ground.textOnly Departure.lateStoresUnsure }, { on := 5, ground := Ground.textOnly Departure.lateStores }, { on := 6, ground := Ground.textOnly Departure.lateStores }, { on := 7, ground := Ground.phase }], guard := none }) (by kernel_rfl) rfl (by rfl) (fun w0 hO hX K hK => ?_)
    have hF := hO; (try simp only [Own, Item.Holds, apartI, CellsAt, Nat.reduceAdd, Nat.zero_add, List.mem_cons, List.not_mem_nil, or_false, forall_eq_or_imp, forall_eq, ne_eq, false_imp_iff, implies_true, and_true] at hF); ((try (have hc1 := hO.int_at (x := pk0) [5, 6, 4, 7, 5, 3] (by first | exact List.mem_cons_self | exact List.mem_cons_of_mem _ List.mem_cons_self) lo0 (by simpa using hi0); rw [hy0] at hc1)))
    go_simp
    apply hK _ _ _ (XR13 r (0 + 30) 1)
    (repeat (first | (with_reducible exact hO) | (with_reducible apply Own.alloc) | (with_reducible apply Own.drew) | ((with_reducible apply Own.set_at); (focus (show _ ≤ _; omega)))))
    · first | exact trivial | exact hX | exact hX.below (below1 _) | exact RdIf.gone | exact hX.keep ((Below.refl _ _).setCell (by first | omega | (dsimp only; omega)) _)
    · exact (by first | exact XStab.true | exact XStab.rd | exact XStab.rdIf)
    · first | exact fun _ _ h => h.2 | exact fun _ _ h => h | exact fun h => absurd h (by decide)
    try simp only [upd, updI, List.map_cons, List.map_nil, eq_self, if_true, if_false, reduceIte, Nat.add_eq_left, Nat.left_eq_add, Nat.reduceEqDiff, List.set_cons_zero, List.set_cons_succ, hF]
    clear hK K hF hO
    try simp only [Act.put, List.setIfInBounds_toArray, List.set_cons_zero, List.set_cons_succ]
    refine Sim.takeP (i := 9) (d := some 4) (v := ?_) rfl rfl (by kernel_rfl) (by kernel_rfl) (by kernel_rfl) (fun _ _ _ h => h) (by first | exact XStab.true | exact XStab.rd | exact XStab.rdIf) ?_ ?_
    rotate_left
    · first | refine Or.inl ⟨by rfl, fun w => ?_⟩ | (refine Or.inr ⟨by rfl, ?_⟩; with_reducible rfl)
      first | done | (go_simp; all_goals with_reducible rfl)
    try simp only [Act.put, List.setIfInBounds_toArray, List.set_cons_zero, List.set_cons_succ]
    refine Sim.done (by kernel_rfl) (fun w1 hO hX => ?_) _
    (try simp only [World.size_alloc1, World.size_drew, Nat.reduceAdd] at hO); (try simp only [upd, updI, List.map_cons, List.map_nil, eq_self, if_true, if_false, reduceIte, Nat.add_eq_left, Nat.left_eq_add, Nat.reduceEqDiff, List.set_cons_zero, List.set_cons_succ] at hO)
    have hF := hO; (try simp only [Own, Item.Holds, apartI, CellsAt, Nat.reduceAdd, Nat.zero_add, List.mem_cons, List.not_mem_nil, or_false, forall_eq_or_imp, forall_eq, ne_eq, false_imp_iff, implies_true, and_true] at hF)
    rotate_left 1
    have hF := hO; (try simp only [Own, Item.Holds, apartI, CellsAt, Nat.reduceAdd, Nat.zero_add, List.mem_cons, List.not_mem_nil, or_false, forall_eq_or_imp, forall_eq, ne_eq, false_imp_iff, implies_true, and_true] at hF); ((try (have hc1 := hO.int_at (x := pk0) [5, 6, 4, 7, 5, 3] (by first | exact List.mem_cons_self | exact List.mem_cons_of_mem _ List.mem_cons_self) lo0 (by simpa using hi0); rw [hy0] at hc1)))
    go_simp
    apply hK _ _ _ (XR13 r (0 + 30) 1)
    (repeat (first | (with_reducible exact hO) | (with_reducible apply Own.alloc) | (with_reducible apply Own.drew) | ((with_reducible apply Own.set_at); (focus (show _ ≤ _; omega)))))
    · first | exact trivial | exact hX | exact hX.below (below1 _) | exact RdIf.gone | exact hX.keep ((Below.refl _ _).setCell (by first | omega | (dsimp only; omega)) _)
    · exact (by first | exact XStab.true | exact XStab.rd | exact XStab.rdIf)
    · first | exact fun _ _ h => h.2 | exact fun _ _ h => h | exact fun h => absurd h (by decide)
    try simp only [upd, updI, List.map_cons, List.map_nil, eq_self, if_true, if_false, reduceIte, Nat.add_eq_left, Nat.left_eq_add, Nat.reduceEqDiff, List.set_cons_zero, List.set_cons_succ, hF]
    clear hK K hF hO
    try simp only [Act.put, List.setIfInBounds_toArray, List.set_cons_zero, List.set_cons_succ]
    refine Sim.take (i := 6) (d := some 25) (v := ?_) rfl rfl (by kernel_rfl) (by kernel_rfl) (by kernel_rfl) (by kernel_rfl) (fun _ _ _ h => h) (by first | exact XStab.true | exact XStab.rd | exact XStab.rdIf) ?_ ?_
    rotate_left
    · first | refine Or.inl ⟨by rfl, fun w hO => ?_⟩ | (refine Or.inr ⟨by rfl, ?_⟩; with_reducible rfl)
      first | done | (have hF := hO; (try simp only [Own, Item.Holds, apartI, CellsAt, Nat.reduceAdd, Nat.zero_add, List.mem_cons, List.not_mem_nil, or_false, forall_eq_or_imp, forall_eq, ne_eq, false_imp_iff, implies_true, and_true] at hF); ((try (have hc1 := hO.int_at (x := pk0) [5, 6, 4, 7, 5, 3] (by first | exact List.mem_cons_self | exact List.mem_cons_of_mem _ List.mem_cons_self) lo0 (by simpa using hi0); rw [hy0] at hc1))); refine Out.same ?_; go_simp; all_goals with_reducible rfl)
    try simp only [Act.put, List.setIfInBounds_toArray, List.set_cons_zero, List.set_cons_succ]
    refine Sim.takeP (i := 9) (d := some 4) (v := ?_) rfl rfl (by kernel_rfl) (by kernel_rfl) (by kernel_rfl) (fun _ _ _ h => h) (by first | exact XStab.true | exact XStab.rd | exact XStab.rdIf) ?_ ?_
    rotate_left
    · first | refine Or.inl ⟨by rfl, fun w => ?_⟩ | (refine Or.inr ⟨by rfl, ?_⟩; with_reducible rfl)
      first | done | (go_simp; all_goals with_reducible rfl)
    try simp only [Act.put, List.setIfInBounds_toArray, List.set_cons_zero, List.set_cons_succ]
    refine Sim.done (by kernel_rfl) (fun w1 hO hX => ?_) _
    (try simp only [World.size_alloc1, World.size_drew, Nat.reduceAdd] at hO); (try simp only [upd, updI, List.map_cons, List.map_nil, eq_self, if_true, if_false, reduceIte, Nat.add_eq_left, Nat.left_eq_add, Nat.reduceEqDiff, List.set_cons_zero, List.set_cons_succ] at hO)
    have hF := hO; (try simp only [Own, Item.Holds, apartI, CellsAt, Nat.reduceAdd, Nat.zero_add, List.mem_cons, List.not_mem_nil, or_false, forall_eq_or_imp, forall_eq, ne_eq, false_imp_iff, implies_true, and_true] at hF)
    rotate_left 1
    have hF := hO; (try simp only [Own, Item.Holds, apartI, CellsAt, Nat.reduceAdd, Nat.zero_add, List.mem_cons, List.not_mem_nil, or_false, forall_eq_or_imp, forall_eq, ne_eq, false_imp_iff, implies_true, and_true] at hF)
    go_simp
    refine (pick_any r (0 + 30) _ _ hX (by omega) (by decide) (by decide)).mono ?_
    rintro e wa ⟨pk0, lo0, hi0, rfl, hR7, hB7⟩
    obtain ⟨y0, hy0⟩ : ∃ y, ([5, 6, 4, 7, 5, 3] : List Int).getD pk0.toNat 0 = y := ⟨_, rfl⟩
    apply hK _ _ _ (XR13 r (0 + 30) 1)
    · exact Own.drawn hB7 hr0 (by first | exact ne_two13 (by omega) (by omega) | exact ne_three13 (by omega) (by omega) (by omega)) hO
    · exact trivial
    · exact XStab.true
    · exact fun _ _ h => h
    clear hR7 hB7
    clear hK K hF hO
    try simp only [Act.put, List.setIfInBounds_toArray, List.set_cons_zero, List.set_cons_succ]
    refine Sim.takeP (i := 7) (d := some 2) (v := ?_) rfl rfl (by kernel_rfl) (by kernel_rfl) (by kernel_rfl) (fun _ _ _ h => h) (by first | exact XStab.true | exact XStab.rd | exact XStab.rdIf) ?_ ?_
    rotate_left
    · first | refine Or.inl ⟨by rfl, fun w => ?_⟩ | (refine Or.inr ⟨by rfl, ?_⟩; with_reducible rfl)
      first | done | (go_simp; all_goals with_reducible rfl)
    try simp only [Act.put, List.setIfInBounds_toArray, List.set_cons_zero, List.set_cons_succ]
    refine Sim.many (rs := [2, 8]) (by kernel_rfl) (by decide) ?_
    refine AllS.cons (oi := { dst := some 21, op := Op.buildSlice 34 6 #[(0, Operand.const (Value.int IntKind.i64 5)), (1, Operand.const (Value.int IntKind.i64 6)), (2, Operand.const (Value.int IntKind.i64 4)), (3, Operand.const (Value.int IntKind.i64 7)), (4, Operand.const (Value.int IntKind.i64 5)), (5, Operand.const (Value.int IntKind.i64 3))], type := 34, pos := "l20_draw.go:685", after := #[{ on := 8, ground := Ground.gcOnly Departure.lateStores }], guard := none }) rfl (by rfl) (fun w0 hO hX K hK => ?_) ?_
    rotate_left
    refine AllS.cons (oi := { dst := none, op := Op.store 24 (Operand.tmp 3) (Operand.tmp 20), type := 0, pos := "l20_draw.go:685", after := #[{ on := 1, ground := Ground.data }, { on := 7, ground := Ground.chain }, { on := 0, ground := Ground.phase }, { on := 1, ground := Ground.phase }, { on := 2, ground := Ground.textOnly Departure.lateStores }, { on := 3, ground := Ground.textOnly Departure.lateStores }, { on := 4, ground := Ground.textOnly Departure.lateStoresUnsure }, { on := 5, ground := Ground.textOnly Departure.lateStores }, { on := 6, ground := Ground.textOnly Departure.lateStores }, { on := 7, ground := Ground.phase }], guard := none }) rfl (by rfl) (fun w0 hO hX K hK => ?_) ?_
    rotate_left
    exact AllS.nil
    rotate_right 2
    (have hF := hO; (try simp only [Own, Item.Holds, apartI, CellsAt, Nat.reduceAdd, Nat.zero_add, List.mem_cons, List.not_mem_nil, or_false, forall_eq_or_imp, forall_eq, ne_eq, false_imp_iff, implies_true, and_true] at hF))
    try (have hq := Rd.lt (show Rd _ r (0 + 30) from hX))
    go_simp
    apply hK _ _ _ (XR13 r (0 + 30) 1)
    · exact Own.alloc hO
    · first | exact trivial | exact Rd.below hX (below1 _)
    · first | exact XStab.true | exact XStab.rd
    · first | exact fun _ _ h => h.2 | exact fun h => absurd h (by decide)
    clear hO hF
    clear hK K
    try simp only [Act.put, List.setIfInBounds_toArray, List.set_cons_zero, List.set_cons_succ]
    refine Sim.takeP (i := 5) (d := some 24) (v := ?_) rfl rfl (by kernel_rfl) (by kernel_rfl) (by kernel_rfl) (fun _ _ _ h => h) (by first | exact XStab.true | exact XStab.rd | exact XStab.rdIf) ?_ ?_
    rotate_left
    · first | refine Or.inl ⟨by rfl, fun w => ?_⟩ | (refine Or.inr ⟨by rfl, ?_⟩; with_reducible rfl)
      first | done | (go_simp; all_goals with_reducible rfl)
    try simp only [Act.put, List.setIfInBounds_toArray, List.set_cons_zero, List.set_cons_succ]
    refine Sim.many (rs := [6, 8]) (by kernel_rfl) (by decide) ?_
    refine AllS.cons (oi := { dst := some 25, op := Op.load 3 (Operand.tmp 24), type := 3, pos := "l20_draw.go:685", after := #[{ on := 5, ground := Ground.data }, { on := 8, ground := Ground.gcOnly Departure.lateStores }], guard := none }) rfl (by rfl) (fun w0 hO hX K hK => ?_) ?_
    rotate_left
    refine AllS.cons (oi := { dst := none, op := Op.store 24 (Operand.tmp 3) (Operand.tmp 20), type := 0, pos := "l20_draw.go:685", after := #[{ on := 1, ground := Ground.data }, { on := 7, ground := Ground.chain }, { on := 0, ground := Ground.phase }, { on := 1, ground := Ground.phase }, { on := 2, ground := Ground.textOnly Departure.lateStores }, { on := 3, ground := Ground.textOnly Departure.lateStores }, { on := 4, ground := Ground.textOnly Departure.lateStoresUnsure }, { on := 5, ground := Ground.textOnly Departure.lateStores }, { on := 6, ground := Ground.textOnly Departure.lateStores }, { on := 7, ground := Ground.phase }], guard := none }) rfl (by rfl) (fun w0 hO hX K hK => ?_) ?_
    rotate_left
    exact AllS.nil
    rotate_right 2
    have hF := hO; (try simp only [Own, Item.Holds, apartI, CellsAt, Nat.reduceAdd, Nat.zero_add, List.mem_cons, List.not_mem_nil, or_false, forall_eq_or_imp, forall_eq, ne_eq, false_imp_iff, implies_true, and_true] at hF); ((try (have hc1 := hO.int_at (x := pk0) [5, 6, 4, 7, 5, 3] (by first | exact List.mem_cons_self | exact List.mem_cons_of_mem _ List.mem_cons_self) lo0 (by simpa using hi0); rw [hy0] at hc1)))
    go_simp
    apply hK _ _ _ (XR13 r (0 + 30) 1)
    (repeat (first | (with_reducible exact hO) | (with_reducible apply Own.alloc) | (with_reducible apply Own.drew) | ((with_reducible apply Own.set_at); (focus (show _ ≤ _; omega)))))
    · first | exact trivial | exact hX | exact hX.below (below1 _) | exact RdIf.gone | exact hX.keep ((Below.refl _ _).setCell (by first | omega | (dsimp only; omega)) _)
    · exact (by first | exact XStab.true | exact XStab.rd | exact XStab.rdIf)
    · first | exact fun _ _ h => h.2 | exact fun _ _ h => h | exact fun h => absurd h (by decide)
    try simp only [upd, updI, List.map_cons, List.map_nil, eq_self, if_true, if_false, reduceIte, Nat.add_eq_left, Nat.left_eq_add, Nat.reduceEqDiff, List.set_cons_zero, List.set_cons_succ, hF]
    clear hK K hF hO
    try simp only [Act.put, List.setIfInBounds_toArray, List.set_cons_zero, List.set_cons_succ]
    refine Sim.one' (i := 8) (oi := { dst := none, op := Op.store 24 (Operand.tmp 3) (Operand.tmp 20), type := 0, pos := "l20_draw.go:685", after := #[{ on := 1, ground := Ground.data }, { on := 7, ground := Ground.chain }, { on := 0, ground := Ground.phase }, { on := 1, ground := Ground.phase }, { on := 2, ground := Ground.textOnly Departure.lateStores }, { on := 3, ground := Ground.textOnly Departure.lateStores }, { on := 4, ground := Ground.textOnly Departure.lateStoresUnsure }, { on := 5, ground := Ground.textOnly Departure.lateStores }, { on := 6, ground := Ground.textOnly Departure.lateStores }, { on := 7, ground := Ground.phase }], guard := none }) (by kernel_rfl) rfl (by rfl) (fun w0 hO hX K hK => ?_)
    have hF := hO; (try simp only [Own, Item.Holds, apartI, CellsAt, Nat.reduceAdd, Nat.zero_add, List.mem_cons, List.not_mem_nil, or_false, forall_eq_or_imp, forall_eq, ne_eq, false_imp_iff, implies_true, and_true] at hF); ((try (have hc1 := hO.int_at (x := pk0) [5, 6, 4, 7, 5, 3] (by first | exact List.mem_cons_self | exact List.mem_cons_of_mem _ List.mem_cons_self) lo0 (by simpa using hi0); rw [hy0] at hc1)))
    go_simp
    apply hK _ _ _ (XR13 r (0 + 30) 1)
    (repeat (first | (with_reducible exact hO) | (with_reducible apply Own.alloc) | (with_reducible apply Own.drew) | ((with_reducible apply Own.set_at); (focus (show _ ≤ _; omega)))))
    · first | exact trivial | exact hX | exact hX.below (below1 _) | exact RdIf.gone | exact hX.keep ((Below.refl _ _).setCell (by first | omega | (dsimp only; omega)) _)
    · exact (by first | exact XStab.true | exact XStab.rd | exact XStab.rdIf)
    · first | exact fun _ _ h => h.2 | exact fun _ _ h => h | exact fun h => absurd h (by decide)
    try simp only [upd, updI, List.map_cons, List.map_nil, eq_self, if_true, if_false, reduceIte, Nat.add_eq_left, Nat.left_eq_add, Nat.reduceEqDiff, List.set_cons_zero, List.set_cons_succ, hF]
    clear hK K hF hO
    try simp only [Act.put, List.setIfInBounds_toArray, List.set_cons_zero, List.set_cons_succ]
    refine Sim.takeP (i := 9) (d := some 4) (v := ?_) rfl rfl (by kernel_rfl) (by kernel_rfl) (by kernel_rfl) (fun _ _ _ h => h) (by first | exact XStab.true | exact XStab.rd | exact XStab.rdIf) ?_ ?_
    rotate_left
    · first | refine Or.inl ⟨by rfl, fun w => ?_⟩ | (refine Or.inr ⟨by rfl, ?_⟩; with_reducible rfl)
      first | done | (go_simp; all_goals with_reducible rfl)
    try simp only [Act.put, List.setIfInBounds_toArray, List.set_cons_zero, List.set_cons_succ]
    refine Sim.done (by kernel_rfl) (fun w1 hO hX => ?_) _
    (try simp only [World.size_alloc1, World.size_drew, Nat.reduceAdd] at hO); (try simp only [upd, updI, List.map_cons, List.map_nil, eq_self, if_true, if_false, reduceIte, Nat.add_eq_left, Nat.left_eq_add, Nat.reduceEqDiff, List.set_cons_zero, List.set_cons_succ] at hO)
    have hF := hO; (try simp only [Own, Item.Holds, apartI, CellsAt, Nat.reduceAdd, Nat.zero_add, List.mem_cons, List.not_mem_nil, or_false, forall_eq_or_imp, forall_eq, ne_eq, false_imp_iff, implies_true, and_true] at hF)
    rotate_left 1
    have hF := hO; (try simp only [Own, Item.Holds, apartI, CellsAt, Nat.reduceAdd, Nat.zero_add, List.mem_cons, List.not_mem_nil, or_false, forall_eq_or_imp, forall_eq, ne_eq, false_imp_iff, implies_true, and_true] at hF); ((try (have hc1 := hO.int_at (x := pk0) [5, 6, 4, 7, 5, 3] (by first | exact List.mem_cons_self | exact List.mem_cons_of_mem _ List.mem_cons_self) lo0 (by simpa using hi0); rw [hy0] at hc1)))
    go_simp
    apply hK _ _ _ (XR13 r (0 + 30) 1)
    (repeat (first | (with_reducible exact hO) | (with_reducible apply Own.alloc) | (with_reducible apply Own.drew) | ((with_reducible apply Own.set_at); (focus (show _ ≤ _; omega)))))
    · first | exact trivial | exact hX | exact hX.below (below1 _) | exact RdIf.gone | exact hX.keep ((Below.refl _ _).setCell (by first | omega | (dsimp only; omega)) _)
    · exact (by first | exact XStab.true | exact XStab.rd | exact XStab.rdIf)
    · first | exact fun _ _ h => h.2 | exact fun _ _ h => h | exact fun h => absurd h (by decide)
    try simp only [upd, updI, List.map_cons, List.map_nil, eq_self, if_true, if_false, reduceIte, Nat.add_eq_left, Nat.left_eq_add, Nat.reduceEqDiff, List.set_cons_zero, List.set_cons_succ, hF]
    clear hK K hF hO
    try simp only [Act.put, List.setIfInBounds_toArray, List.set_cons_zero, List.set_cons_succ]
    refine Sim.take (i := 6) (d := some 25) (v := ?_) rfl rfl (by kernel_rfl) (by kernel_rfl) (by kernel_rfl) (by kernel_rfl) (fun _ _ _ h => h) (by first | exact XStab.true | exact XStab.rd | exact XStab.rdIf) ?_ ?_
    rotate_left
    · first | refine Or.inl ⟨by rfl, fun w hO => ?_⟩ | (refine Or.inr ⟨by rfl, ?_⟩; with_reducible rfl)
      first | done | (have hF := hO; (try simp only [Own, Item.Holds, apartI, CellsAt, Nat.reduceAdd, Nat.zero_add, List.mem_cons, List.not_mem_nil, or_false, forall_eq_or_imp, forall_eq, ne_eq, false_imp_iff, implies_true, and_true] at hF); ((try (have hc1 := hO.int_at (x := pk0) [5, 6, 4, 7, 5, 3] (by first | exact List.mem_cons_self | exact List.mem_cons_of_mem _ List.mem_cons_self) lo0 (by simpa using hi0); rw [hy0] at hc1))); refine Out.same ?_; go_simp; all_goals with_reducible rfl)
    try simp only [Act.put, List.setIfInBounds_toArray, List.set_cons_zero, List.set_cons_succ]
    refine Sim.takeP (i := 9) (d := some 4) (v := ?_) rfl rfl (by kernel_rfl) (by kernel_rfl) (by kernel_rfl) (fun _ _ _ h => h) (by first | exact XStab.true | exact XStab.rd | exact XStab.rdIf) ?_ ?_
    rotate_left
    · first | refine Or.inl ⟨by rfl, fun w => ?_⟩ | (refine Or.inr ⟨by rfl, ?_⟩; with_reducible rfl)
      first | done | (go_simp; all_goals with_reducible rfl)
    try simp only [Act.put, List.setIfInBounds_toArray, List.set_cons_zero, List.set_cons_succ]
    refine Sim.done (by kernel_rfl) (fun w1 hO hX => ?_) _
    (try simp only [World.size_alloc1, World.size_drew, Nat.reduceAdd] at hO); (try simp only [upd, updI, List.map_cons, List.map_nil, eq_self, if_true, if_false, reduceIte, Nat.add_eq_left, Nat.left_eq_add, Nat.reduceEqDiff, List.set_cons_zero, List.set_cons_succ] at hO)
    have hF := hO; (try simp only [Own, Item.Holds, apartI, CellsAt, Nat.reduceAdd, Nat.zero_add, List.mem_cons, List.not_mem_nil, or_false, forall_eq_or_imp, forall_eq, ne_eq, false_imp_iff, implies_true, and_true] at hF)
    rotate_left 1
    have hF := hO; (try simp only [Own, Item.Holds, apartI, CellsAt, Nat.reduceAdd, Nat.zero_add, List.mem_cons, List.not_mem_nil, or_false, forall_eq_or_imp, forall_eq, ne_eq, false_imp_iff, implies_true, and_true] at hF); ((try (have hc1 := hO.int_at (x := pk0) [5, 6, 4, 7, 5, 3] (by first | exact List.mem_cons_self | exact List.mem_cons_of_mem _ List.mem_cons_self) lo0 (by simpa using hi0); rw [hy0] at hc1)))
    go_simp
    apply hK _ _ _ (XR13 r (0 + 30) 1)
    (repeat (first | (with_reducible exact hO) | (with_reducible apply Own.alloc) | (with_reducible apply Own.drew) | ((with_reducible apply Own.set_at); (focus (show _ ≤ _; omega)))))
    · first | exact trivial | exact hX | exact hX.below (below1 _) | exact RdIf.gone | exact hX.keep ((Below.refl _ _).setCell (by first | omega | (dsimp only; omega)) _)
    · exact (by first | exact XStab.true | exact XStab.rd | exact XStab.rdIf)
    · first | exact fun _ _ h => h.2 | exact fun _ _ h => h | exact fun h => absurd h (by decide)
    try simp only [upd, updI, List.map_cons, List.map_nil, eq_self, if_true, if_false, reduceIte, Nat.add_eq_left, Nat.left_eq_add, Nat.reduceEqDiff, List.set_cons_zero, List.set_cons_succ, hF]
    clear hK K hF hO
    try simp only [Act.put, List.setIfInBounds_toArray, List.set_cons_zero, List.set_cons_succ]
    refine Sim.one' (i := 2) (oi := { dst := some 21, op := Op.buildSlice 34 6 #[(0, Operand.const (Value.int IntKind.i64 5)), (1, Operand.const (Value.int IntKind.i64 6)), (2, Operand.const (Value.int IntKind.i64 4)), (3, Operand.const (Value.int IntKind.i64 7)), (4, Operand.const (Value.int IntKind.i64 5)), (5, Operand.const (Value.int IntKind.i64 3))], type := 34, pos := "l20_draw.go:685", after := #[{ on := 8, ground := Ground.gcOnly Departure.lateStores }], guard := none }) (by kernel_rfl) rfl (by rfl) (fun w0 hO hX K hK => ?_)
    (have hF := hO; (try simp only [Own, Item.Holds, apartI, CellsAt, Nat.reduceAdd, Nat.zero_add, List.mem_cons, List.not_mem_nil, or_false, forall_eq_or_imp, forall_eq, ne_eq, false_imp_iff, implies_true, and_true] at hF))
    try (have hq := Rd.lt (show Rd _ r (0 + 30) from hX))
    go_simp
    apply hK _ _ _ (XR13 r (0 + 30) 1)
    · exact Own.alloc hO
    · first | exact trivial | exact Rd.below hX (below1 _)
    · first | exact XStab.true | exact XStab.rd
    · first | exact fun _ _ h => h.2 | exact fun h => absurd h (by decide)
    clear hO hF
    clear hK K
    try simp only [Act.put, List.setIfInBounds_toArray, List.set_cons_zero, List.set_cons_succ]
    refine Sim.takeP (i := 5) (d := some 24) (v := ?_) rfl rfl (by kernel_rfl) (by kernel_rfl) (by kernel_rfl) (fun _ _ _ h => h) (by first | exact XStab.true | exact XStab.rd | exact XStab.rdIf) ?_ ?_
    rotate_left
    · first | refine Or.inl ⟨by rfl, fun w => ?_⟩ | (refine Or.inr ⟨by rfl, ?_⟩; with_reducible rfl)
      first | done | (go_simp; all_goals with_reducible rfl)
    try simp only [Act.put, List.setIfInBounds_toArray, List.set_cons_zero, List.set_cons_succ]
    refine Sim.take (i := 6) (d := some 25) (v := ?_) rfl rfl (by kernel_rfl) (by kernel_rfl) (by kernel_rfl) (by kernel_rfl) (fun _ _ _ h => h) (by first | exact XStab.true | exact XStab.rd | exact XStab.rdIf) ?_ ?_
    rotate_left
    · first | refine Or.inl ⟨by rfl, fun w hO => ?_⟩ | (refine Or.inr ⟨by rfl, ?_⟩; with_reducible rfl)
      first | done | (have hF := hO; (try simp only [Own, Item.Holds, apartI, CellsAt, Nat.reduceAdd, Nat.zero_add, List.mem_cons, List.not_mem_nil, or_false, forall_eq_or_imp, forall_eq, ne_eq, false_imp_iff, implies_true, and_true] at hF); ((try (have hc1 := hO.int_at (x := pk0) [5, 6, 4, 7, 5, 3] (by first | exact List.mem_cons_self | exact List.mem_cons_of_mem _ List.mem_cons_self) lo0 (by simpa using hi0); rw [hy0] at hc1))); refine Out.same ?_; go_simp; all_goals with_reducible rfl)
    try simp only [Act.put, List.setIfInBounds_toArray, List.set_cons_zero, List.set_cons_succ]
    refine Sim.takeP (i := 9) (d := some 4) (v := ?_) rfl rfl (by kernel_rfl) (by kernel_rfl) (by kernel_rfl) (fun _ _ _ h => h) (by first | exact XStab.true | exact XStab.rd | exact XStab.rdIf) ?_ ?_
    rotate_left
    · first | refine Or.inl ⟨by rfl, fun w => ?_⟩ | (refine Or.inr ⟨by rfl, ?_⟩; with_reducible rfl)
      first | done | (go_simp; all_goals with_reducible rfl)
    try simp only [Act.put, List.setIfInBounds_toArray, List.set_cons_zero, List.set_cons_succ]
    refine Sim.done (by kernel_rfl) (fun w1 hO hX => ?_) _
    (try simp only [World.size_alloc1, World.size_drew, Nat.reduceAdd] at hO); (try simp only [upd, updI, List.map_cons, List.map_nil, eq_self, if_true, if_false, reduceIte, Nat.add_eq_left, Nat.left_eq_add, Nat.reduceEqDiff, List.set_cons_zero, List.set_cons_succ] at hO)
    have hF := hO; (try simp only [Own, Item.Holds, apartI, CellsAt, Nat.reduceAdd, Nat.zero_add, List.mem_cons, List.not_mem_nil, or_false, forall_eq_or_imp, forall_eq, ne_eq, false_imp_iff, implies_true, and_true] at hF)
    rotate_left 1
    (have hF := hO; (try simp only [Own, Item.Holds, apartI, CellsAt, Nat.reduceAdd, Nat.zero_add, List.mem_cons, List.not_mem_nil, or_false, forall_eq_or_imp, forall_eq, ne_eq, false_imp_iff, implies_true, and_true] at hF))
    try (have hq := Rd.lt (show Rd _ r (0 + 30) from hX))
    go_simp
    apply hK _ _ _ (XR13 r (0 + 30) 0)
    · exact Own.alloc hO
    · first | exact trivial | exact Rd.below hX (below1 _)
    · first | exact XStab.true | exact XStab.rd
    · first | exact fun _ _ h => h.2 | exact fun h => absurd h (by decide)
    clear hO hF
    clear hK K
    try simp only [Act.put, List.setIfInBounds_toArray, List.set_cons_zero, List.set_cons_succ]
    refine Sim.take (i := 1) (d := some 20) (v := ?_) rfl rfl (by kernel_rfl) (by kernel_rfl) (by kernel_rfl) (by kernel_rfl) (fun _ _ _ h => h) (by first | exact XStab.true | exact XStab.rd | exact XStab.rdIf) ?_ ?_
    rotate_left
    · first | refine Or.inl ⟨by rfl, fun w hO => ?_⟩ | (refine Or.inr ⟨by rfl, ?_⟩; with_reducible rfl)
      first | done | (have hF := hO; (try simp only [Own, Item.Holds, apartI, CellsAt, Nat.reduceAdd, Nat.zero_add, List.mem_cons, List.not_mem_nil, or_false, forall_eq_or_imp, forall_eq, ne_eq, false_imp_iff, implies_true, and_true] at hF); ((try (have hc1 := hO.int_at (x := pk0) [5, 6, 4, 7, 5, 3] (by first | exact List.mem_cons_self | exact List.mem_cons_of_mem _ List.mem_cons_self) lo0 (by simpa using hi0); rw [hy0] at hc1))); refine Out.same ?_; go_simp; all_goals with_reducible rfl)
    try simp only [Act.put, List.setIfInBounds_toArray, List.set_cons_zero, List.set_cons_succ]
    refine Sim.one' (i := 4) (oi := { dst := some 23, op := Op.call { callee := Callee.value (Operand.func 44), args := #[Operand.tmp 22, Operand.const (Value.int IntKind.i64 6)], argTypes := #[62, 3] }, type := 3, pos := "l20_draw.go:685", after := #[{ on := 3, ground := Ground.data }], guard := none }) (by kernel_rfl) rfl (by rfl) (fun w0 hO hX K hK => ?_)
    have hF := hO; (try simp only [Own, Item.Holds, apartI, CellsAt, Nat.reduceAdd, Nat.zero_add, List.mem_cons, List.not_mem_nil, or_false, forall_eq_or_imp, forall_eq, ne_eq, false_imp_iff, implies_true, and_true] at hF)
    go_simp
    refine (pick_any r (0 + 30) _ _ hX (by omega) (by decide) (by decide)).mono ?_
    rintro e wa ⟨pk0, lo0, hi0, rfl, hR7, hB7⟩
    obtain ⟨y0, hy0⟩ : ∃ y, ([5, 6, 4, 7, 5, 3] : List Int).getD pk0.toNat 0 = y := ⟨_, rfl⟩
    apply hK _ _ _ (XR13 r (0 + 30) 1)
    · exact Own.drawn hB7 hr0 (by first | exact ne_two13 (by omega) (by omega) | exact ne_three13 (by omega) (by omega) (by omega)) hO
    · exact trivial
    · exact XStab.true
    · exact fun _ _ h => h
    clear hR7 hB7
    clear hK K hF hO
    try simp only [Act.put, List.setIfInBounds_toArray, List.set_cons_zero, List.set_cons_succ]
    refine Sim.takeP (i := 5) (d := some 24) (v := ?_) rfl rfl (by kernel_rfl) (by kernel_rfl) (by kernel_rfl) (fun _ _ _ h => h) (by first | exact XStab.true | exact XStab.rd | exact XStab.rdIf) ?_ ?_
    rotate_left
    · first | refine Or.inl ⟨by rfl, fun w => ?_⟩ | (refine Or.inr ⟨by rfl, ?_⟩; with_reducible rfl)
      first | done | (go_simp; all_goals with_reducible rfl)
    try simp only [Act.put, List.setIfInBounds_toArray, List.set_cons_zero, List.set_cons_succ]
    refine Sim.takeP (i := 7) (d := some 2) (v := ?_) rfl rfl (by kernel_rfl) (by kernel_rfl) (by kernel_rfl) (fun _ _ _ h => h) (by first | exact XStab.true | exact XStab.rd | exact XStab.rdIf) ?_ ?_
    rotate_left
    · first | refine Or.inl ⟨by rfl, fun w => ?_⟩ | (refine Or.inr ⟨by rfl, ?_⟩; with_reducible rfl)
      first | done | (go_simp; all_goals with_reducible rfl)
    try simp only [Act.put, List.setIfInBounds_toArray, List.set_cons_zero, List.set_cons_succ]
    refine Sim.many (rs := [6, 8]) (by kernel_rfl) (by decide) ?_
    refine AllS.cons (oi := { dst := some 25, op := Op.load 3 (Operand.tmp 24), type := 3, pos := "l20_draw.go:685", after := #[{ on := 5, ground := Ground.data }, { on := 8, ground := Ground.gcOnly Departure.lateStores }], guard := none }) rfl (by rfl) (fun w0 hO hX K hK => ?_) ?_
    rotate_left
    refine AllS.cons (oi := { dst := none, op := Op.store 24 (Operand.tmp 3) (Operand.tmp 20), type := 0, pos := "l20_draw.go:685", after := #[{ on := 1, ground := Ground.data }, { on := 7, ground := Ground.chain }, { on := 0, ground := Ground.phase }, { on := 1, ground := Ground.phase }, { on := 2, ground := Ground.textOnly Departure.lateStores }, { on := 3, ground := Ground.textOnly Departure.lateStores }, { on := 4, ground := Ground.textOnly Departure.lateStoresUnsure }, { on := 5, ground := Ground.textOnly Departure.lateStores }, { on := 6, ground := Ground.textOnly Departure.lateStores }, { on := 7, ground := Ground.phase }], guard := none }) rfl (by rfl) (fun w0 hO hX K hK => ?_) ?_
    rotate_left
    exact AllS.nil
    rotate_right 2
    have hF := hO; (try simp only [Own, Item.Holds, apartI, CellsAt, Nat.reduceAdd, Nat.zero_add, List.mem_cons, List.not_mem_nil, or_false, forall_eq_or_imp, forall_eq, ne_eq, false_imp_iff, implies_true, and_true] at hF); ((try (have hc1 := hO.int_at (x := pk0) [5, 6, 4, 7, 5, 3] (by first | exact List.mem_cons_self | exact List.mem_cons_of_mem _ List.mem_cons_self) lo0 (by simpa using hi0); rw [hy0] at hc1)))
    go_simp
    apply hK _ _ _ (XR13 r (0 + 30) 1)
    (repeat (first | (with_reducible exact hO) | (with_reducible apply Own.alloc) | (with_reducible apply Own.drew) | ((with_reducible apply Own.set_at); (focus (show _ ≤ _; omega)))))
    · first | exact trivial | exact hX | exact hX.below (below1 _) | exact RdIf.gone | exact hX.keep ((Below.refl _ _).setCell (by first | omega | (dsimp only; omega)) _)
    · exact (by first | exact XStab.true | exact XStab.rd | exact XStab.rdIf)
    · first | exact fun _ _ h => h.2 | exact fun _ _ h => h | exact fun h => absurd h (by decide)
    try simp only [upd, updI, List.map_cons, List.map_nil, eq_self, if_true, if_false, reduceIte, Nat.add_eq_left, Nat.left_eq_add, Nat.reduceEqDiff, List.set_cons_zero, List.set_cons_succ, hF]
    clear hK K hF hO
    try simp only [Act.put, List.setIfInBounds_toArray, List.set_cons_zero, List.set_cons_succ]
    refine Sim.one' (i := 8) (oi := { dst := none, op := Op.store 24 (Operand.tmp 3) (Operand.tmp 20), type := 0, pos := "l20_draw.go:685", after := #[{ on := 1, ground := Ground.data }, { on := 7, ground := Ground.chain }, { on := 0, ground := Ground.phase }, { on := 1, ground := Ground.phase }, { on := 2, ground := Ground.textOnly Departure.lateStores }, { on := 3, ground := Ground.textOnly Departure.lateStores }, { on := 4, ground := Ground.textOnly Departure.lateStoresUnsure }, { on := 5, ground := Ground.textOnly Departure.lateStores }, { on := 6, ground := Ground.textOnly Departure.lateStores }, { on := 7, ground := Ground.phase }], guard := none }) (by kernel_rfl) rfl (by rfl) (fun w0 hO hX K hK => ?_)
    have hF := hO; (try simp only [Own, Item.Holds, apartI, CellsAt, Nat.reduceAdd, Nat.zero_add, List.mem_cons, List.not_mem_nil, or_false, forall_eq_or_imp, forall_eq, ne_eq, false_imp_iff, implies_true, and_true] at hF); ((try (have hc1 := hO.int_at (x := pk0) [5, 6, 4, 7, 5, 3] (by first | exact List.mem_cons_self | exact List.mem_cons_of_mem _ List.mem_cons_self) lo0 (by simpa using hi0); rw [hy0] at hc1)))
    go_simp
    apply hK _ _ _ (XR13 r (0 + 30) 1)
    (repeat (first | (with_reducible exact hO) | (with_reducible apply Own.alloc) | (with_reducible apply Own.drew) | ((with_reducible apply Own.set_at); (focus (show _ ≤ _; omega)))))
    · first | exact trivial | exact hX | exact hX.below (below1 _) | exact RdIf.gone | exact hX.keep ((Below.refl _ _).setCell (by first | omega | (dsimp only; omega)) _)
    · exact (by first | exact XStab.true | exact XStab.rd | exact XStab.rdIf)
    · first | exact fun _ _ h => h.2 | exact fun _ _ h => h | exact fun h => absurd h (by decide)
    try simp only [upd, updI, List.map_cons, List.map_nil, eq_self, if_true, if_false, reduceIte, Nat.add_eq_left, Nat.left_eq_add, Nat.reduceEqDiff, List.set_cons_zero, List.set_cons_succ, hF]
    clear hK K hF hO
    try simp only [Act.put, List.setIfInBounds_toArray, List.set_cons_zero, List.set_cons_succ]
    refine Sim.takeP (i := 9) (d := some 4) (v := ?_) rfl rfl (by kernel_rfl) (by kernel_rfl) (by kernel_rfl) (fun _ _ _ h => h) (by first | exact XStab.true | exact XStab.rd | exact XStab.rdIf) ?_ ?_
    rotate_left
    · first | refine Or.inl ⟨by rfl, fun w => ?_⟩ | (refine Or.inr ⟨by rfl, ?_⟩; with_reducible rfl)
      first | done | (go_simp; all_goals with_reducible rfl)
    try simp only [Act.put, List.setIfInBounds_toArray, List.set_cons_zero, List.set_cons_succ]
    refine Sim.done (by kernel_rfl) (fun w1 hO hX => ?_) _
    (try simp only [World.size_alloc1, World.size_drew, Nat.reduceAdd] at hO); (try simp only [upd, updI, List.map_cons, List.map_nil, eq_self, if_true, if_false, reduceIte, Nat.add_eq_left, Nat.left_eq_add, Nat.reduceEqDiff, List.set_cons_zero, List.set_cons_succ] at hO)
    have hF := hO; (try simp only [Own, Item.Holds, apartI, CellsAt, Nat.reduceAdd, Nat.zero_add, List.mem_cons, List.not_mem_nil, or_false, forall_eq_or_imp, forall_eq, ne_eq, false_imp_iff, implies_true, and_true] at hF)
    rotate_left 1
    have hF := hO; (try simp only [Own, Item.Holds, apartI, CellsAt, Nat.reduceAdd, Nat.zero_add, List.mem_cons, List.not_mem_nil, or_false, forall_eq_or_imp, forall_eq, ne_eq, false_imp_iff, implies_true, and_true] at hF); ((try (have hc1 := hO.int_at (x := pk0) [5, 6, 4, 7, 5, 3] (by first | exact List.mem_cons_self | exact List.mem_cons_of_mem _ List.mem_cons_self) lo0 (by simpa using hi0); rw [hy0] at hc1)))
    go_simp
    apply hK _ _ _ (XR13 r (0 + 30) 1)
    (repeat (first | (with_reducible exact hO) | (with_reducible apply Own.alloc) | (with_reducible apply Own.drew) | ((with_reducible apply Own.set_at); (focus (show _ ≤ _; omega)))))
    · first | exact trivial | exact hX | exact hX.below (below1 _) | exact RdIf.gone | exact hX.keep ((Below.refl _ _).setCell (by first | omega | (dsimp only; omega)) _)
    · exact (by first | exact XStab.true | exact XStab.rd | exact XStab.rdIf)
    · first | exact fun _ _ h => h.2 | exact fun _ _ h => h | exact fun h => absurd h (by decide)
    try simp only [upd, updI, List.map_cons, List.map_nil, eq_self, if_true, if_false, reduceIte, Nat.add_eq_left, Nat.left_eq_add, Nat.reduceEqDiff, List.set_cons_zero, List.set_cons_succ, hF]
    clear hK K hF hO
    try simp only [Act.put, List.setIfInBounds_toArray, List.set_cons_zero, List.set_cons_succ]
    refine Sim.take (i := 6) (d := some 25) (v := ?_) rfl rfl (by kernel_rfl) (by kernel_rfl) (by kernel_rfl) (by kernel_rfl) (fun _ _ _ h => h) (by first | exact XStab.true | exact XStab.rd | exact XStab.rdIf) ?_ ?_
    rotate_left
    · first | refine Or.inl ⟨by rfl, fun w hO => ?_⟩ | (refine Or.inr ⟨by rfl, ?_⟩; with_reducible rfl)
      first | done | (have hF := hO; (try simp only [Own, Item.Holds, apartI, CellsAt, Nat.reduceAdd, Nat.zero_add, List.mem_cons, List.not_mem_nil, or_false, forall_eq_or_imp, forall_eq, ne_eq, false_imp_iff, implies_true, and_true] at hF); ((try (have hc1 := hO.int_at (x := pk0) [5, 6, 4, 7, 5, 3] (by first | exact List.mem_cons_self | exact List.mem_cons_of_mem _ List.mem_cons_self) lo0 (by simpa using hi0); rw [hy0] at hc1))); refine Out.same ?_; go_simp; all_goals with_reducible rfl)
    try simp only [Act.put, List.setIfInBounds_toArray, List.set_cons_zero, List.set_cons_succ]
    refine Sim.takeP (i := 9) (d := some 4) (v := ?_) rfl rfl (by kernel_rfl) (by kernel_rfl) (by kernel_rfl) (fun _ _ _ h => h) (by first | exact XStab.true | exact XStab.rd | exact XStab.rdIf) ?_ ?_
    rotate_left
    · first | refine Or.inl ⟨by rfl, fun w => ?_⟩ | (refine Or.inr ⟨by rfl, ?_⟩; with_reducible rfl)
      first | done | (go_simp; all_goals with_reducible rfl)
    try simp only [Act.put, List.setIfInBounds_toArray, List.set_cons_zero, List.set_cons_succ]
    refine Sim.done (by kernel_rfl) (fun w1 hO hX => ?_) _
    (try simp only [World.size_alloc1, World.size_drew, Nat.reduceAdd] at hO); (try simp only [upd, updI, List.map_cons, List.map_nil, eq_self, if_true, if_false, reduceIte, Nat.add_eq_left, Nat.left_eq_add, Nat.reduceEqDiff, List.set_cons_zero, List.set_cons_succ] at hO)
    have hF := hO; (try simp only [Own, Item.Holds, apartI, CellsAt, Nat.reduceAdd, Nat.zero_add, List.mem_cons, List.not_mem_nil, or_false, forall_eq_or_imp, forall_eq, ne_eq, false_imp_iff, implies_true, and_true] at hF)
    rotate_left 1
    have hF := hO; (try simp only [Own, Item.Holds, apartI, CellsAt, Nat.reduceAdd, Nat.zero_add, List.mem_cons, List.not_mem_nil, or_false, forall_eq_or_imp, forall_eq, ne_eq, false_imp_iff, implies_true, and_true] at hF)
    go_simp
    refine (pick_any r (0 + 30) _ _ hX (by omega) (by decide) (by decide)).mono ?_
    rintro e wa ⟨pk0, lo0, hi0, rfl, hR7, hB7⟩
    obtain ⟨y0, hy0⟩ : ∃ y, ([5, 6, 4, 7, 5, 3] : List Int).getD pk0.toNat 0 = y := ⟨_, rfl⟩
    apply hK _ _ _ (XR13 r (0 + 30) 1)
    · exact Own.drawn hB7 hr0 (by first | exact ne_two13 (by omega) (by omega) | exact ne_three13 (by omega) (by omega) (by omega)) hO
    · exact trivial
    · exact XStab.true
    · exact fun _ _ h => h
    clear hR7 hB7
    clear hK K hF hO
    try simp only [Act.put, List.setIfInBounds_toArray, List.set_cons_zero, List.set_cons_succ]
    refine Sim.takeP (i := 7) (d := some 2) (v := ?_) rfl rfl (by kernel_rfl) (by kernel_rfl) (by kernel_rfl) (fun _ _ _ h => h) (by first | exact XStab.true | exact XStab.rd | exact XStab.rdIf) ?_ ?_
    rotate_left
    · first | refine Or.inl ⟨by rfl, fun w => ?_⟩ | (refine Or.inr ⟨by rfl, ?_⟩; with_reducible rfl)
      first | done | (go_simp; all_goals with_reducible rfl)
    try simp only [Act.put, List.setIfInBounds_toArray, List.set_cons_zero, List.set_cons_succ]
    refine Sim.many (rs := [1, 2]) (by kernel_rfl) (by decide) ?_
    refine AllS.cons (oi := { dst := some 20, op := Op.load 24 (Operand.tmp 7), type := 24, pos := "l20_draw.go:685", after := #[{ on := 7, ground := Ground.gcOnly Departure.lateStores }], guard := none }) rfl (by rfl) (fun w0 hO hX K hK => ?_) ?_
    rotate_left
    refine AllS.cons (oi := { dst := some 21, op := Op.buildSlice 34 6 #[(0, Operand.const (Value.int IntKind.i64 5)), (1, Operand.const (Value.int IntKind.i64 6)), (2, Operand.const (Value.int IntKind.i64 4)), (3, Operand.const (Value.int IntKind.i64 7)), (4, Operand.const (Value.int IntKind.i64 5)), (5, Operand.const (Value.int IntKind.i64 3))], type := 34, pos := "l20_draw.go:685", after := #[{ on := 8, ground := Ground.gcOnly Departure.lateStores }], guard := none }) rfl (by rfl) (fun w0 hO hX K hK => ?_) ?_
    rotate_left
    exact AllS.nil
    rotate_right 2
    have hF := hO; (try simp only [Own, Item.Holds, apartI, CellsAt, Nat.reduceAdd, Nat.zero_add, List.mem_cons, List.not_mem_nil, or_false, forall_eq_or_imp, forall_eq, ne_eq, false_imp_iff, implies_true, and_true] at hF); ((try (have hc1 := hO.int_at (x := pk0) [5, 6, 4, 7, 5, 3] (by first | exact List.mem_cons_self | exact List.mem_cons_of_mem _ List.mem_cons_self) lo0 (by simpa using hi0); rw [hy0] at hc1)))
    go_simp
    apply hK _ _ _ (XR13 r (0 + 30) 1)
    (repeat (first | (with_reducible exact hO) | (with_reducible apply Own.alloc) | (with_reducible apply Own.drew) | ((with_reducible apply Own.set_at); (focus (show _ ≤ _; omega)))))
    · first | exact trivial | exact hX | exact hX.below (below1 _) | exact RdIf.gone | exact hX.keep ((Below.refl _ _).setCell (by first | omega | (dsimp only; omega)) _)
    · exact (by first | exact XStab.true | exact XStab.rd | exact XStab.rdIf)
    · first | exact fun _ _ h => h.2 | exact fun _ _ h => h | exact fun h => absurd h (by decide)
    try simp only [upd, updI, List.map_cons, List.map_nil, eq_self, if_true, if_false, reduceIte, Nat.add_eq_left, Nat.left_eq_add, Nat.reduceEqDiff, List.set_cons_zero, List.set_cons_succ, hF]
    clear hK K hF hO
    try simp only [Act.put, List.setIfInBounds_toArray, List.set_cons_zero, List.set_cons_succ]
    refine Sim.many (rs := [2, 8]) (by kernel_rfl) (by decide) ?_
    refine AllS.cons (oi := { dst := some 21, op := Op.buildSlice 34 6 #[(0, Operand.const (Value.int IntKind.i64 5)), (1, Operand.const (Value.int IntKind.i64 6)), (2, Operand.const (Value.int IntKind.i64 4)), (3, Operand.const (Value.int IntKind.i64 7)), (4, Operand.const (Value.int IntKind.i64 5)), (5, Operand.const (Value.int IntKind.i64 3))], type := 34, pos := "l20_draw.go:685", after := #[{ on := 8, ground := Ground.gcOnly Departure.lateStores }], guard := none }) rfl (by rfl) (fun w0 hO hX K hK => ?_) ?_
    rotate_left
    refine AllS.cons (oi := { dst := none, op := Op.store 24 (Operand.tmp 3) (Operand.tmp 20), type := 0, pos := "l20_draw.go:685", after := #[{ on := 1, ground := Ground.data }, { on := 7, ground := Ground.chain }, { on := 0, ground := Ground.phase }, { on := 1, ground := Ground.phase }, { on := 2, ground := Ground.textOnly Departure.lateStores }, { on := 3, ground := Ground.textOnly Departure.lateStores }, { on := 4, ground := Ground.textOnly Departure.lateStoresUnsure }, { on := 5, ground := Ground.textOnly Departure.lateStores }, { on := 6, ground := Ground.textOnly Departure.lateStores }, { on := 7, ground := Ground.phase }], guard := none }) rfl (by rfl) (fun w0 hO hX K hK => ?_) ?_
    rotate_left
    exact AllS.nil
    rotate_right 2
    (have hF := hO; (try simp only [Own, Item.Holds, apartI, CellsAt, Nat.reduceAdd, Nat.zero_add, List.mem_cons, List.not_mem_nil, or_false, forall_eq_or_imp, forall_eq, ne_eq, false_imp_iff, implies_true, and_true] at hF))
    try (have hq := Rd.lt (show Rd _ r (0 + 30) from hX))
    go_simp
    apply hK _ _ _ (XR13 r (0 + 30) 1)
    · exact Own.alloc hO
    · first | exact trivial | exact Rd.below hX (below1 _)
    · first | exact XStab.true | exact XStab.rd
    · first | exact fun _ _ h => h.2 | exact fun h => absurd h (by decide)
    clear hO hF
    clear hK K
    try simp only [Act.put, List.setIfInBounds_toArray, List.set_cons_zero, List.set_cons_succ]
    refine Sim.takeP (i := 5) (d := some 24) (v := ?_) rfl rfl (by kernel_rfl) (by kernel_rfl) (by kernel_rfl) (fun _ _ _ h => h) (by first | exact XStab.true | exact XStab.rd | exact XStab.rdIf) ?_ ?_
    rotate_left
    · first | refine Or.inl ⟨by rfl, fun w => ?_⟩ | (refine Or.inr ⟨by rfl, ?_⟩; with_reducible rfl)
      first | done | (go_simp; all_goals with_reducible rfl)
    try simp only [Act.put, List.setIfInBounds_toArray, List.set_cons_zero, List.set_cons_succ]
    refine Sim.many (rs := [6, 8]) (by kernel_rfl) (by decide) ?_
    refine AllS.cons (oi := { dst := some 25, op := Op.load 3 (Operand.tmp 24), type := 3, pos := "l20_draw.go:685", after := #[{ on := 5, ground := Ground.data }, { on := 8, ground := Ground.gcOnly Departure.lateStores }], guard := none }) rfl (by rfl) (fun w0 hO hX K hK => ?_) ?_
    rotate_left
    refine AllS.cons (oi := { dst := none, op := Op.store 24 (Operand.tmp 3) (Operand.tmp 20), type := 0, pos := "l20_draw.go:685", after := #[{ on := 1, ground := Ground.data }, { on := 7, ground := Ground.chain }, { on := 0, ground := Ground.phase }, { on := 1, ground := Ground.phase }, { on := 2, ground := Ground.textOnly Departure.lateStores }, { on := 3, ground := Ground.textOnly Departure.lateStores }, { on := 4, ground := Ground.textOnly Departure.lateStoresUnsure }, { on := 5, ground := Ground.textOnly Departure.lateStores }, { on := 6, ground := Ground.textOnly Departure.lateStores }, { on := 7, ground := Ground.phase }], guard := none }) rfl (by rfl) (fun w0 hO hX K hK => ?_) ?_
    rotate_left
    exact AllS.nil
    rotate_right 2
    have hF := hO; (try simp only [Own, Item.Holds, apartI, CellsAt, Nat.reduceAdd, Nat.zero_add, List.mem_cons, List.not_mem_nil, or_false, forall_eq_or_imp, forall_eq, ne_eq, false_imp_iff, implies_true, and_true] at hF); ((try (have hc1 := hO.int_at (x := pk0) [5, 6, 4, 7, 5, 3] (by first | exact List.mem_cons_self | exact List.mem_cons_of_mem _ List.mem_cons_self) lo0 (by simpa using hi0); rw [hy0] at hc1)))
    go_simp
    apply hK _ _ _ (XR13 r (0 + 30) 1)
    (repeat (first | (with_reducible exact hO) | (with_reducible apply Own.alloc) | (with_reducible apply Own.drew) | ((with_reducible apply Own.set_at); (focus (show _ ≤ _; omega)))))
    · first | exact trivial | exact hX | exact hX.below (below1 _) | exact RdIf.gone | exact hX.keep ((Below.refl _ _).setCell (by first | omega | (dsimp only; omega)) _)
    · exact (by first | exact XStab.true | exact XStab.rd | exact XStab.rdIf)
    · first | exact fun _ _ h => h.2 | exact fun _ _ h => h | exact fun h => absurd h (by decide)
    try simp only [upd, updI, List.map_cons, List.map_nil, eq_self, if_true, if_false, reduceIte, Nat.add_eq_left, Nat.left_eq_add, Nat.reduceEqDiff, List.set_cons_zero, List.set_cons_succ, hF]
    clear hK K hF hO
    try simp only [Act.put, List.setIfInBounds_toArray, List.set_cons_zero, List.set_cons_succ]
    refine Sim.one' (i := 8) (oi := { dst := none, op := Op.store 24 (Operand.tmp 3) (Operand.tmp 20), type := 0, pos := "l20_draw.go:685", after := #[{ on := 1, ground := Ground.data }, { on := 7, ground := Ground.chain }, { on := 0, ground := Ground.phase }, { on := 1, ground := Ground.phase }, { on := 2, ground := Ground.textOnly Departure.lateStores }, { on := 3, ground := Ground.textOnly Departure.lateStores }, { on := 4, ground := Ground.textOnly Departure.lateStoresUnsure }, { on := 5, ground := Ground.textOnly Departure.lateStores }, { on := 6, ground := Ground.textOnly Departure.lateStores }, { on := 7, ground := Ground.phase }], guard := none }) (by kernel_rfl) rfl (by rfl) (fun w0 hO hX K hK => ?_)
    have hF := hO; (try simp only [Own, Item.Holds, apartI, CellsAt, Nat.reduceAdd, Nat.zero_add, List.mem_cons, List.not_mem_nil, or_false, forall_eq_or_imp, forall_eq, ne_eq, false_imp_iff, implies_true, and_true] at hF); ((try (have hc1 := hO.int_at (x := pk0) [5, 6, 4, 7, 5, 3] (by first | exact List.mem_cons_self | exact List.mem_cons_of_mem _ List.mem_cons_self) lo0 (by simpa using hi0); rw [hy0] at hc1)))
    go_simp
    apply hK _ _ _ (XR13 r (0 + 30) 1)
    (repeat (first | (with_reducible exact hO) | (with_reducible apply Own.alloc) | (with_reducible apply Own.drew) | ((with_reducible apply Own.set_at); (focus (show _ ≤ _; omega)))))
    · first | exact trivial | exact hX | exact hX.below (below1 _) | exact RdIf.gone | exact hX.keep ((Below.refl _ _).setCell (by first | omega | (dsimp only; omega)) _)
    · exact (by first | exact XStab.true | exact XStab.rd | exact XStab.rdIf)
    · first | exact fun _ _ h => h.2 | exact fun _ _ h => h | exact fun h => absurd h (by decide)
    try simp only [upd, updI, List.map_cons, List.map_nil, eq_self, if_true, if_false, reduceIte, Nat.add_eq_left, Nat.left_eq_add, Nat.reduceEqDiff, List.set_cons_zero, List.set_cons_succ, hF]
    clear hK K hF hO
    try simp only [Act.put, List.setIfInBounds_toArray, List.set_cons_zero, List.set_cons_succ]
    refine Sim.takeP (i := 9) (d := some 4) (v := ?_) rfl rfl (by kernel_rfl) (by kernel_rfl) (by kernel_rfl) (fun _ _ _ h => h) (by first | exact XStab.true | exact XStab.rd | exact XStab.rdIf) ?_ ?_
    rotate_left
    · first | refine Or.inl ⟨by rfl, fun w => ?_⟩ | (refine Or.inr ⟨by rfl, ?_⟩; with_reducible rfl)
      first | done | (go_simp; all_goals with_reducible rfl)
    try simp only [Act.put, List.setIfInBounds_toArray, List.set_cons_zero, List.set_cons_succ]
    refine Sim.done (by kernel_rfl) (fun w1 hO hX => ?_) _
    (try simp only [World.size_alloc1, World.size_drew, Nat.reduceAdd] at hO); (try simp only [upd, updI, List.map_cons, List.map_nil, eq_self, if_true, if_false, reduceIte, Nat.add_eq_left, Nat.left_eq_add, Nat.reduceEqDiff, List.set_cons_zero, List.set_cons_succ] at hO)
    have hF := hO; (try simp only [Own, Item.Holds, apartI, CellsAt, Nat.reduceAdd, Nat.zero_add, List.mem_cons, List.not_mem_nil, or_false, forall_eq_or_imp, forall_eq, ne_eq, false_imp_iff, implies_true, and_true] at hF)
    rotate_left 1
    have hF := hO; (try simp only [Own, Item.Holds, apartI, CellsAt, Nat.reduceAdd, Nat.zero_add, List.mem_cons, List.not_mem_nil, or_false, forall_eq_or_imp, forall_eq, ne_eq, false_imp_iff, implies_true, and_true] at hF); ((try (have hc1 := hO.int_at (x := pk0) [5, 6, 4, 7, 5, 3] (by first | exact List.mem_cons_self | exact List.mem_cons_of_mem _ List.mem_cons_self) lo0 (by simpa using hi0); rw [hy0] at hc1)))
    go_simp
    apply hK _ _ _ (XR13 r (0 + 30) 1)
    (repeat (first | (with_reducible exact hO) | (with_reducible apply Own.alloc) | (with_reducible apply Own.drew) | ((with_reducible apply Own.set_at); (focus (show _ ≤ _; omega)))))
    · first | exact trivial | exact hX | exact hX.below (below1 _) | exact RdIf.gone | exact hX.keep ((Below.refl _ _).setCell (by first | omega | (dsimp only; omega)) _)
    · exact (by first | exact XStab.true | exact XStab.rd | exact XStab.rdIf)
    · first | exact fun _ _ h => h.2 | exact fun _ _ h => h | exact fun h => absurd h (by decide)
    try simp only [upd, updI, List.map_cons, List.map_nil, eq_self, if_true, if_false, reduceIte, Nat.add_eq_left, Nat.left_eq_add, Nat.reduceEqDiff, List.set_cons_zero, List.set_cons_succ, hF]
    clear hK K hF hO
    try simp only [Act.put, List.setIfInBounds_toArray, List.set_cons_zero, List.set_cons_succ]
    refine Sim.take (i := 6) (d := some 25) (v := ?_) rfl rfl (by kernel_rfl) (by kernel_rfl) (by kernel_rfl) (by kernel_rfl) (fun _ _ _ h => h) (by first | exact XStab.true | exact XStab.rd | exact XStab.rdIf) ?_ ?_
    rotate_left
    · first | refine Or.inl ⟨by rfl, fun w hO => ?_⟩ | (refine Or.inr ⟨by rfl, ?_⟩; with_reducible rfl)
      first | done | (have hF := hO; (try simp only [Own, Item.Holds, apartI, CellsAt, Nat.reduceAdd, Nat.zero_add, List.mem_cons, List.not_mem_nil, or_false, forall_eq_or_imp, forall_eq, ne_eq, false_imp_iff, implies_true, and_true] at hF); ((try (have hc1 := hO.int_at (x := pk0) [5, 6, 4, 7, 5, 3] (by first | exact List.mem_cons_self | exact List.mem_cons_of_mem _ List.mem_cons_self) lo0 (by simpa using hi0); rw [hy0] at hc1))); refine Out.same ?_; go_simp; all_goals with_reducible rfl)
    try simp only [Act.put, List.setIfInBounds_toArray, List.set_cons_zero, List.set_cons_succ]
    refine Sim.takeP (i := 9) (d := some 4) (v := ?_) rfl rfl (by kernel_rfl) (by kernel_rfl) (by kernel_rfl) (fun _ _ _ h => h) (by first | exact XStab.true | exact XStab.rd | exact XStab.rdIf) ?_ ?_
    rotate_left
    · first | refine Or.inl ⟨by rfl, fun w => ?_⟩ | (refine Or.inr ⟨by rfl, ?_⟩; with_reducible rfl)
      first | done | (go_simp; all_goals with_reducible rfl)
    try simp only [Act.put, List.setIfInBounds_toArray, List.set_cons_zero, List.set_cons_succ]
    refine Sim.done (by kernel_rfl) (fun w1 hO hX => ?_) _
    (try simp only [World.size_alloc1, World.size_drew, Nat.reduceAdd] at hO); (try simp only [upd, updI, List.map_cons, List.map_nil, eq_self, if_true, if_false, reduceIte, Nat.add_eq_left, Nat.left_eq_add, Nat.reduceEqDiff, List.set_cons_zero, List.set_cons_succ] at hO)
    have hF := hO; (try simp only [Own, Item.Holds, apartI, CellsAt, Nat.reduceAdd, Nat.zero_add, List.mem_cons, List.not_mem_nil, or_false, forall_eq_or_imp, forall_eq, ne_eq, false_imp_iff, implies_true, and_true] at hF)
    rotate_left 1
    have hF := hO; (try simp only [Own, Item.Holds, apartI, CellsAt, Nat.reduceAdd, Nat.zero_add, List.mem_cons, List.not_mem_nil, or_false, forall_eq_or_imp, forall_eq, ne_eq, false_imp_iff, implies_true, and_true] at hF); ((try (have hc1 := hO.int_at (x := pk0) [5, 6, 4, 7, 5, 3] (by first | exact List.mem_cons_self | exact List.mem_cons_of_mem _ List.mem_cons_self) lo0 (by simpa using hi0); rw [hy0] at hc1)))
    go_simp
    apply hK _ _ _ (XR13 r (0 + 30) 1)
    (repeat (first | (with_reducible exact hO) | (with_reducible apply Own.alloc) | (with_reducible apply Own.drew) | ((with_reducible apply Own.set_at); (focus (show _ ≤ _; omega)))))
    · first | exact trivial | exact hX | exact hX.below (below1 _) | exact RdIf.gone | exact hX.keep ((Below.refl _ _).setCell (by first | omega | (dsimp only; omega)) _)
    · exact (by first | exact XStab.true | exact XStab.rd | exact XStab.rdIf)
    · first | exact fun _ _ h => h.2 | exact fun _ _ h => h | exact fun h => absurd h (by decide)
    try simp only [upd, updI, List.map_cons, List.map_nil, eq_self, if_true, if_false, reduceIte, Nat.add_eq_left, Nat.left_eq_add, Nat.reduceEqDiff, List.set_cons_zero, List.set_cons_succ, hF]
    clear hK K hF hO
    try simp only [Act.put, List.setIfInBounds_toArray, List.set_cons_zero, List.set_cons_succ]
    refine Sim.one' (i := 2) (oi := { dst := some 21, op := Op.buildSlice 34 6 #[(0, Operand.const (Value.int IntKind.i64 5)), (1, Operand.const (Value.int IntKind.i64 6)), (2, Operand.const (Value.int IntKind.i64 4)), (3, Operand.const (Value.int IntKind.i64 7)), (4, Operand.const (Value.int IntKind.i64 5)), (5, Operand.const (Value.int IntKind.i64 3))], type := 34, pos := "l20_draw.go:685", after := #[{ on := 8, ground := Ground.gcOnly Departure.lateStores }], guard := none }) (by kernel_rfl) rfl (by rfl) (fun w0 hO hX K hK => ?_)
    (have hF := hO; (try simp only [Own, Item.Holds, apartI, CellsAt, Nat.reduceAdd, Nat.zero_add, List.mem_cons, List.not_mem_nil, or_false, forall_eq_or_imp, forall_eq, ne_eq, false_imp_iff, implies_true, and_true] at hF))
    try (have hq := Rd.lt (show Rd _ r (0 + 30) from hX))
    go_simp
    apply hK _ _ _ (XR13 r (0 + 30) 1)
    · exact Own.alloc hO
    · first | exact trivial | exact Rd.below hX (below1 _)
    · first | exact XStab.true | exact XStab.rd
    · first | exact fun _ _ h => h.2 | exact fun h => absurd h (by decide)
    clear hO hF
    clear hK K
    try simp only [Act.put, List.setIfInBounds_toArray, List.set_cons_zero, List.set_cons_succ]
    refine Sim.takeP (i := 5) (d := some 24) (v := ?_) rfl rfl (by kernel_rfl) (by kernel_rfl) (by kernel_rfl) (fun _ _ _ h => h) (by first | exact XStab.true | exact XStab.rd | exact XStab.rdIf) ?_ ?_
    rotate_left
    · first | refine Or.inl ⟨by rfl, fun w => ?_⟩ | (refine Or.inr ⟨by rfl, ?_⟩; with_reducible rfl)
      first | done | (go_simp; all_goals with_reducible rfl)
    try simp only [Act.put, List.setIfInBounds_toArray, List.set_cons_zero, List.set_cons_succ]
    refine Sim.take (i := 6) (d := some 25) (v := ?_) rfl rfl (by kernel_rfl) (by kernel_rfl) (by kernel_rfl) (by kernel_rfl) (fun _ _ _ h => h) (by first | exact XStab.true | exact XStab.rd | exact XStab.rdIf) ?_ ?_
    rotate_left
    · first | refine Or.inl ⟨by rfl, fun w hO => ?_⟩ | (refine Or.inr ⟨by rfl, ?_⟩; with_reducible rfl)
      first | done | (have hF := hO; (try simp only [Own, Item.Holds, apartI, CellsAt, Nat.reduceAdd, Nat.zero_add, List.mem_cons, List.not_mem_nil, or_false, forall_eq_or_imp, forall_eq, ne_eq, false_imp_iff, implies_true, and_true] at hF); ((try (have hc1 := hO.int_at (x := pk0) [5, 6, 4, 7, 5, 3] (by first | exact List.mem_cons_self | exact List.mem_cons_of_mem _ List.mem_cons_self) lo0 (by simpa using hi0); rw [hy0] at hc1))); refine Out.same ?_; go_simp; all_goals with_reducible rfl)
    try simp only [Act.put, List.setIfInBounds_toArray, List.set_cons_zero, List.set_cons_succ]
    refine Sim.takeP (i := 9) (d := some 4) (v := ?_) rfl rfl (by kernel_rfl) (by kernel_rfl) (by kernel_rfl) (fun _ _ _ h => h) (by first | exact XStab.true | exact XStab.rd | exact XStab.rdIf) ?_ ?_
    rotate_left
    · first | refine Or.inl ⟨by rfl, fun w => ?_⟩ | (refine Or.inr ⟨by rfl, ?_⟩; with_reducible rfl)
      first | done | (go_simp; all_goals with_reducible rfl)
    try simp only [Act.put, List.setIfInBounds_toArray, List.set_cons_zero, List.set_cons_succ]
    refine Sim.done (by kernel_rfl) (fun w1 hO hX => ?_) _
    (try simp only [World.size_alloc1, World.size_drew, Nat.reduceAdd] at hO); (try simp only [upd, updI, List.map_cons, List.map_nil, eq_self, if_true, if_false, reduceIte, Nat.add_eq_left, Nat.left_eq_add, Nat.reduceEqDiff, List.set_cons_zero, List.set_cons_succ] at hO)
    have hF := hO; (try simp only [Own, Item.Holds, apartI, CellsAt, Nat.reduceAdd, Nat.zero_add, List.mem_cons, List.not_mem_nil, or_false, forall_eq_or_imp, forall_eq, ne_eq, false_imp_iff, implies_true, and_true] at hF)
    rotate_left 1
    (have hF := hO; (try simp only [Own, Item.Holds, apartI, CellsAt, Nat.reduceAdd, Nat.zero_add, List.mem_cons, List.not_mem_nil, or_false, forall_eq_or_imp, forall_eq, ne_eq, false_imp_iff, implies_true, and_true] at hF))
    try (have hq := Rd.lt (show Rd _ r (0 + 30) from hX))
    go_simp
    apply hK _ _ _ (XR13 r (0 + 30) 1)
    · exact Own.alloc hO
    · first | exact trivial | exact Rd.below hX (below1 _)
    · first | exact XStab.true | exact XStab.rd
    · first | exact fun _ _ h => h.2 | exact fun h => absurd h (by decide)
    clear hO hF
    clear hK K
    try simp only [Act.put, List.setIfInBounds_toArray, List.set_cons_zero, List.set_cons_succ]
    refine Sim.take (i := 1) (d := some 20) (v := ?_) rfl rfl (by kernel_rfl) (by kernel_rfl) (by kernel_rfl) (by kernel_rfl) (fun _ _ _ h => h) (by first | exact XStab.true | exact XStab.rd | exact XStab.rdIf) ?_ ?_
    rotate_left
    · first | refine Or.inl ⟨by rfl, fun w hO => ?_⟩ | (refine Or.inr ⟨by rfl, ?_⟩; with_reducible rfl)
      first | done | (have hF := hO; (try simp only [Own, Item.Holds, apartI, CellsAt, Nat.reduceAdd, Nat.zero_add, List.mem_cons, List.not_mem_nil, or_false, forall_eq_or_imp, forall_eq, ne_eq, false_imp_iff, implies_true, and_true] at hF); ((try (have hc1 := hO.int_at (x := pk0) [5, 6, 4, 7, 5, 3] (by first | exact List.mem_cons_self | exact List.mem_cons_of_mem _ List.mem_cons_self) lo0 (by simpa using hi0); rw [hy0] at hc1))); refine Out.same ?_; go_simp; all_goals with_reducible rfl)
    try simp only [Act.put, List.setIfInBounds_toArray, List.set_cons_zero, List.set_cons_succ]
    refine Sim.takeP (i := 5) (d := some 24) (v := ?_) rfl rfl (by kernel_rfl) (by kernel_rfl) (by kernel_rfl) (fun _ _ _ h => h) (by first | exact XStab.true | exact XStab.rd | exact XStab.rdIf) ?_ ?_
    rotate_left
    · first | refine Or.inl ⟨by rfl, fun w => ?_⟩ | (refine Or.inr ⟨by rfl, ?_⟩; with_reducible rfl)
      first | done | (go_simp; all_goals with_reducible rfl)
    try simp only [Act.put, List.setIfInBounds_toArray, List.set_cons_zero, List.set_cons_succ]
    refine Sim.many (rs := [6, 8]) (by kernel_rfl) (by decide) ?_
    refine AllS.cons (oi := { dst := some 25, op := Op.load 3 (Operand.tmp 24), type := 3, pos := "l20_draw.go:685", after := #[{ on := 5, ground := Ground.data }, { on := 8, ground := Ground.gcOnly Departure.lateStores }], guard := none }) rfl (by rfl) (fun w0 hO hX K hK => ?_) ?_
    rotate_left
    refine AllS.cons (oi := { dst := none, op := Op.store 24 (Operand.tmp 3) (Operand.tmp 20), type := 0, pos := "l20_draw.go:685", after := #[{ on := 1, ground := Ground.data }, { on := 7, ground := Ground.chain }, { on := 0, ground := Ground.phase }, { on := 1, ground := Ground.phase }, { on := 2, ground := Ground.textOnly Departure.lateStores }, { on := 3, ground := Ground.textOnly Departure.lateStores }, { on := 4, ground := Ground.textOnly Departure.lateStoresUnsure }, { on := 5, ground := Ground.textOnly Departure.lateStores }, { on := 6, ground := Ground.textOnly Departure.lateStores }, { on := 7, ground := Ground.phase }], guard := none }) rfl (by rfl) (fun w0 hO hX K hK => ?_) ?_
    rotate_left
    exact AllS.nil
    rotate_right 2
    have hF := hO; (try simp only [Own, Item.Holds, apartI, CellsAt, Nat.reduceAdd, Nat.zero_add, List.mem_cons, List.not_mem_nil, or_false, forall_eq_or_imp, forall_eq, ne_eq, false_imp_iff, implies_true, and_true] at hF); ((try (have hc1 := hO.int_at (x := pk0) [5, 6, 4, 7, 5, 3] (by first | exact List.mem_cons_self | exact List.mem_cons_of_mem _ List.mem_cons_self) lo0 (by simpa using hi0); rw [hy0] at hc1)))
    go_simp
    apply hK _ _ _ (XR13 r (0 + 30) 1)
    (repeat (first | (with_reducible exact hO) | (with_reducible apply Own.alloc) | (with_reducible apply Own.drew) | ((with_reducible apply Own.set_at); (focus (show _ ≤ _; omega)))))
    · first | exact trivial | exact hX | exact hX.below (below1 _) | exact RdIf.gone | exact hX.keep ((Below.refl _ _).setCell (by first | omega | (dsimp only; omega)) _)
    · exact (by first | exact XStab.true | exact XStab.rd | exact XStab.rdIf)
    · first | exact fun _ _ h => h.2 | exact fun _ _ h => h | exact fun h => absurd h (by decide)
    try simp only [upd, updI, List.map_cons, List.map_nil, eq_self, if_true, if_false, reduceIte, Nat.add_eq_left, Nat.left_eq_add, Nat.reduceEqDiff, List.set_cons_zero, List.set_cons_succ, hF]
    clear hK K hF hO
    try simp only [Act.put, List.setIfInBounds_toArray, List.set_cons_zero, List.set_cons_succ]
    refine Sim.one' (i := 8) (oi := { dst := none, op := Op.store 24 (Operand.tmp 3) (Operand.tmp 20), type := 0, pos := "l20_draw.go:685", after := #[{ on := 1, ground := Ground.data }, { on := 7, ground := Ground.chain }, { on := 0, ground := Ground.phase }, { on := 1, ground := Ground.phase }, { on := 2, ground := Ground.textOnly Departure.lateStores }, { on := 3, ground := Ground.textOnly Departure.lateStores }, { on := 4, ground := Ground.textOnly Departure.lateStoresUnsure }, { on := 5, ground := Ground.textOnly Departure.lateStores }, { on := 6, ground := Ground.textOnly Departure.lateStores }, { on := 7, ground := Ground.phase }], guard := none }) (by kernel_rfl) rfl (by rfl) (fun w0 hO hX K hK => ?_)
    have hF := hO; (try simp only [Own, Item.Holds, apartI, CellsAt, Nat.reduceAdd, Nat.zero_add, List.mem_cons, List.not_mem_nil, or_false, forall_eq_or_imp, forall_eq, ne_eq, false_imp_iff, implies_true, and_true] at hF); ((try (have hc1 := hO.int_at (x := pk0) [5, 6, 4, 7, 5, 3] (by first | exact List.mem_cons_self | exact List.mem_cons_of_mem _ List.mem_cons_self) lo0 (by simpa using hi0); rw [hy0] at hc1)))
    go_simp
    apply hK _ _ _ (XR13 r (0 + 30) 1)
    (repeat (first | (with_reducible exact hO) | (with_reducible apply Own.alloc) | (with_reducible apply Own.drew) | ((with_reducible apply Own.set_at); (focus (show _ ≤ _; omega)))))
    · first | exact trivial | exact hX | exact hX.below (below1 _) | exact RdIf.gone | exact hX.keep ((Below.refl _ _).setCell (by first | omega | (dsimp only; omega)) _)
    · exact (by first | exact XStab.true | exact XStab.rd | exact XStab.rdIf)
    · first | exact fun _ _ h => h.2 | exact fun _ _ h => h | exact fun h => absurd h (by decide)
    try simp only [upd, updI, List.map_cons, List.map_nil, eq_self, if_true, if_false, reduceIte, Nat.add_eq_left, Nat.left_eq_add, Nat.reduceEqDiff, List.set_cons_zero, List.set_cons_succ, hF]
    clear hK K hF hO
    try simp only [Act.put, List.setIfInBounds_toArray, List.set_cons_zero, List.set_cons_succ]
    refine Sim.takeP (i := 9) (d := some 4) (v := ?_) rfl rfl (by kernel_rfl) (by kernel_rfl) (by kernel_rfl) (fun _ _ _ h => h) (by first | exact XStab.true | exact XStab.rd | exact XStab.rdIf) ?_ ?_
    rotate_left
    · first | refine Or.inl ⟨by rfl, fun w => ?_⟩ | (refine Or.inr ⟨by rfl, ?_⟩; with_reducible rfl)
      first | done | (go_simp; all_goals with_reducible rfl)
    try simp only [Act.put, List.setIfInBounds_toArray, List.set_cons_zero, List.set_cons_succ]
    refine Sim.done (by kernel_rfl) (fun w1 hO hX => ?_) _
    (try simp only [World.size_alloc1, World.size_drew, Nat.reduceAdd] at hO); (try simp only [upd, updI, List.map_cons, List.map_nil, eq_self, if_true, if_false, reduceIte, Nat.add_eq_left, Nat.left_eq_add, Nat.reduceEqDiff, List.set_cons_zero, List.set_cons_succ] at hO)
    have hF := hO; (try simp only [Own, Item.Holds, apartI, CellsAt, Nat.reduceAdd, Nat.zero_add, List.mem_cons, List.not_mem_nil, or_false, forall_eq_or_imp, forall_eq, ne_eq, false_imp_iff, implies_true, and_true] at hF)
    rotate_left 1
    have hF := hO; (try simp only [Own, Item.Holds, apartI, CellsAt, Nat.reduceAdd, Nat.zero_add, List.mem_cons, List.not_mem_nil, or_false, forall_eq_or_imp, forall_eq, ne_eq, false_imp_iff, implies_true, and_true] at hF); ((try (have hc1 := hO.int_at (x := pk0) [5, 6, 4, 7, 5, 3] (by first | exact List.mem_cons_self | exact List.mem_cons_of_mem _ List.mem_cons_self) lo0 (by simpa using hi0); rw [hy0] at hc1)))
    go_simp
    apply hK _ _ _ (XR13 r (0 + 30) 1)
    (repeat (first | (with_reducible exact hO) | (with_reducible apply Own.alloc) | (with_reducible apply Own.drew) | ((with_reducible apply Own.set_at); (focus (show _ ≤ _; omega)))))
    · first | exact trivial | exact hX | exact hX.below (below1 _) | exact RdIf.gone | exact hX.keep ((Below.refl _ _).setCell (by first | omega | (dsimp only; omega)) _)
    · exact (by first | exact XStab.true | exact XStab.rd | exact XStab.rdIf)
    · first | exact fun _ _ h => h.2 | exact fun _ _ h => h | exact fun h => absurd h (by decide)
    try simp only [upd, updI, List.map_cons, List.map_nil, eq_self, if_true, if_false, reduceIte, Nat.add_eq_left, Nat.left_eq_add, Nat.reduceEqDiff, List.set_cons_zero, List.set_cons_succ, hF]
    clear hK K hF hO
    try simp only [Act.put, List.setIfInBounds_toArray, List.set_cons_zero, List.set_cons_succ]
    refine Sim.take (i := 6) (d := some 25) (v := ?_) rfl rfl (by kernel_rfl) (by kernel_rfl) (by kernel_rfl) (by kernel_rfl) (fun _ _ _ h => h) (by first | exact XStab.true | exact XStab.rd | exact XStab.rdIf) ?_ ?_
    rotate_left
    · first | refine Or.inl ⟨by rfl, fun w hO => ?_⟩ | (refine Or.inr ⟨by rfl, ?_⟩; with_reducible rfl)
      first | done | (have hF := hO; (try simp only [Own, Item.Holds, apartI, CellsAt, Nat.reduceAdd, Nat.zero_add, List.mem_cons, List.not_mem_nil, or_false, forall_eq_or_imp, forall_eq, ne_eq, false_imp_iff, implies_true, and_true] at hF); ((try (have hc1 := hO.int_at (x := pk0) [5, 6, 4, 7, 5, 3] (by first | exact List.mem_cons_self | exact List.mem_cons_of_mem _ List.mem_cons_self) lo0 (by simpa using hi0); rw [hy0] at hc1))); refine Out.same ?_; go_simp; all_goals with_reducible rfl)
    try simp only [Act.put, List.setIfInBounds_toArray, List.set_cons_zero, List.set_cons_succ]
    refine Sim.takeP (i := 9) (d := some 4) (v := ?_) rfl rfl (by kernel_rfl) (by kernel_rfl) (by kernel_rfl) (fun _ _ _ h => h) (by first | exact XStab.true | exact XStab.rd | exact XStab.rdIf) ?_ ?_
    rotate_left
    · first | refine Or.inl ⟨by rfl, fun w => ?_⟩ | (refine Or.inr ⟨by rfl, ?_⟩; with_reducible rfl)
      first | done | (go_simp; all_goals with_reducible rfl)
    try simp only [Act.put, List.setIfInBounds_toArray, List.set_cons_zero, List.set_cons_succ]
    refine Sim.done (by kernel_rfl) (fun w1 hO hX => ?_) _
    (try simp only [World.size_alloc1, World.size_drew, Nat.reduceAdd] at hO); (try simp only [upd, updI, List.map_cons, List.map_nil, eq_self, if_true, if_false, reduceIte, Nat.add_eq_left, Nat.left_eq_add, Nat.reduceEqDiff, List.set_cons_zero, List.set_cons_succ] at hO)
    have hF := hO; (try simp only [Own, Item.Holds, apartI, CellsAt, Nat.reduceAdd, Nat.zero_add, List.mem_cons, List.not_mem_nil, or_false, forall_eq_or_imp, forall_eq, ne_eq, false_imp_iff, implies_true, and_true] at hF)
    rotate_left 1
    all_goals
      have HZ := hid (fg6_bd lo0 (by omega) hy0)
      clear hy0 lo0 hi0
      go_wp2_with fail
      apply own_end hO
      (repeat (first | (with_reducible exact hO) | (with_reducible apply Own.alloc) | (with_reducible apply Own.drew) | ((with_reducible apply Own.set_at); (focus (show _ ≤ _; omega)))))
      have hG := hF; clear hF; clear hO; intro hO
      refine own_ret (v := .tuple #[.int .i64 f, .agg #[.int .i64 s', .int .i64 a', .int .i64 o'], .int .i64 y0]) hO ?_ rfl (fun hO => ⟨f, ⟨s', a', o'⟩, y0, HF.out, HY.out, HZ.out, rfl, hO.base⟩)
      clear hO; intro w1 hO
      (try simp only [World.size_alloc1, World.size_drew, Nat.reduceAdd] at hO); (try simp only [upd, updI, List.map_cons, List.map_nil, eq_self, if_true, if_false, reduceIte, Nat.add_eq_left, Nat.left_eq_add, Nat.reduceEqDiff, List.set_cons_zero, List.set_cons_succ, hG] at hO); clear hG
      have hF := hO; (try simp only [Own, Item.Holds, apartI, CellsAt, Nat.reduceAdd, Nat.zero_add, List.mem_cons, List.not_mem_nil, or_false, forall_eq_or_imp, forall_eq, ne_eq, false_imp_iff, implies_true, and_true] at hF)
      simp [results, Tryd.results10, go_sem, hF]
end Go.Proofs.YtfiodejbeeblgaaDoor
