/- The function that draws for FnLineNumber: a key, a cantus, bounds and a number. -/
import Derived.Test.YtieoobanpllmgaaDoorDraws15
import Derived.Test.YtieoobanpllmgaaDoorCon15
import Derived.Test.YtieoobanpllmgaaDoorRegionD
namespace Go.Proofs.YtieoobanpllmgaaDoor
set_option linter.unusedSimpArgs false
set_option linter.unusedVariables false
set_option maxRecDepth 8000
open Go.RowKit

theorem results5_15 {fn : Func} {t u v x y : Tmp} (h : fn.results = #[.tmp t, .tmp u, .tmp v, .tmp x, .tmp y]) (tmps : Array Value) (P : Program) (w : World) :
    (results fn tmps).run P w = .ok (.tuple #[tmps.getD t undef, tmps.getD u undef, tmps.getD v undef, tmps.getD x undef, tmps.getD y undef]) w := by
  simp [results, h]
/-- Which of four numbers is taken. -/
def sel15 (x : Int) : Int := ([0, 0, 0, 0, 1, 2, 3] : List Int).getD x.toNat 0
theorem sel15_bd {x : Int} (h0 : 0 ≤ x) (h1 : x < 7) : 0 ≤ sel15 x ∧ sel15 x ≤ 3 := by
  unfold sel15
  rcases (show x = 0 ∨ x = 1 ∨ x = 2 ∨ x = 3 ∨ x = 4 ∨ x = 5 ∨ x = 6 by omega) with rfl | rfl | rfl | rfl | rfl | rfl | rfl <;> decide
theorem own_sel15 {n : Nat} {B : World → Prop} {w : World} {b : Nat} {x : Int} {L : List Item} (h : Own n B w L) (hm : Item.blk b [.int .i64 0, .int .i64 0, .int .i64 0, .int .i64 0, .int .i64 1, .int .i64 2, .int .i64 3] ∈ L) (x0 : 0 ≤ x) (x1 : x < 7) : w.cell? ⟨b, x.toNat, none⟩ = some (.int .i64 (sel15 x)) :=
  Own.int_at [0, 0, 0, 0, 1, 2, 3] h hm x0 (by simpa using x1)
def num15 (p z i : Int) : Int := ([p, z - 1, z, -1] : List Int).getD i.toNat 0
theorem num15_bd {p z i : Int} (h0 : 0 ≤ i) (h1 : i ≤ 3) (hp : 0 ≤ p ∧ p ≤ 256) (hz : -1 ≤ z ∧ z ≤ 984930291881790849) : -2 ≤ num15 p z i ∧ num15 p z i ≤ 984930291881790849 := by
  unfold num15
  rcases (show i = 0 ∨ i = 1 ∨ i = 2 ∨ i = 3 by omega) with rfl | rfl | rfl | rfl <;> simp <;> omega
theorem own_num15 {n : Nat} {B : World → Prop} {w : World} {b : Nat} {p z i : Int} {L : List Item} (h : Own n B w L) (hm : Item.blk b [.int .i64 p, .int .i64 (z - 1), .int .i64 z, .int .i64 (-1)] ∈ L) (x0 : 0 ≤ i) (x1 : i ≤ 3) : w.cell? ⟨b, i.toNat, none⟩ = some (.int .i64 (num15 p z i)) :=
  Own.int_at [p, z - 1, z, -1] h hm x0 (by simp; omega)

/-- What drawing a key, a cantus, bounds and a number for a law leaves. -/
def DrewNu15 (w : World) (e : Ending) (w' : World) : Prop :=
  ∃ (f : Int) (u : Value) (c : List Pt) (lo hi m : Int), (-3 ≤ f ∧ f ≤ 8) ∧ (∀ x ∈ c, cbOk x) ∧ 1 ≤ c.length ∧ c.length ≤ 6 ∧ (46 ≤ lo ∧ lo ≤ 51) ∧ (lo - 1 ≤ hi ∧ hi ≤ 108) ∧ (-2 ≤ m ∧ m ≤ 984930291881790849) ∧ e = .returned (.tuple #[.int .i64 f, u, .int .i64 lo, .int .i64 hi, .int .i64 m]) ∧ SlAt w' u c.length 3 (pcC c) ∧ Below w.heap.size w w'

set_option maxRecDepth 20000 in
set_option maxHeartbeats 8000000 in
theorem DrawLineNumber_any (v : Value) (n : Nat) (w : World) (hn : n ≤ maxLen) (h : BytesB w w.heap.size v n) :
    Calls Tryd.prog 15 #[v] w (DrewNu15 w) := by
  go_enter Tryd.func15, Tryd.ntmps15
  go_wp2_with fail
  refine (open_any v n _ hn h).mono ?_
  rintro e wd ⟨r, hr, rfl, hR, hb⟩
  have hr0 := hR.lt
  have HB := hid (And.intro hb hr)
  go_wp2_with fail
  refine (l20Search_any r 0 _ hR (by omega)).mono ?_
  rintro e w2 ⟨f, u, c, lo, hi, hf, hc, h1, h6, hlo, hhi, rfl, hO⟩
  have HV := hid (And.intro hf (And.intro hc (And.intro h1 (And.intro h6 (And.intro hlo hhi)))))
  have hF := True.intro
  obtain ⟨z, hz⟩ : ∃ z, clZ f c lo hi = z := ⟨_, rfl⟩
  have hzb := clZ_bd (f := f) (c := c) (lo := lo) (hi := hi)
  rw [hz] at hzb
  obtain ⟨Au, cu, hu⟩ := (SlAt.of_row hO.1.1).form
  subst hu
  have HCL := hid (fun W (hc : SlAt W (.slice Au c.length cu) c.length 3 (pcC c)) => countS_is rfl hc (by omega) hz W (Below.refl _ _))
  clear hR hb h hn hr hf hc h1 h6 hlo hhi hz
  obtain ⟨k, hk⟩ : ∃ k, c.length = k := ⟨_, rfl⟩
  rw [hk] at hO HCL
  rw [hk]
  have HK := hid hk
  clear hk
  go_wp2_with fail
  (go_at_call 12; apply own_at hO; (repeat (first | (with_reducible exact hO) | (with_reducible apply Own.alloc) | (with_reducible apply Own.drew) | ((with_reducible apply Own.set_at); (focus (show _ ≤ _; omega))))); have hG := hF; clear hF; clear hO; intro hO; refine own_callO hO (fun hW => HCL.out _ (SlAt.of_row hW.1.1)) ?_; clear hO; intro w1 hO; (try simp only [World.size_alloc1, World.size_drew, Nat.reduceAdd] at hO); (try simp only [upd, updI, List.map_cons, List.map_nil, eq_self, if_true, if_false, reduceIte, Nat.add_eq_left, Nat.left_eq_add, Nat.reduceEqDiff, List.set_cons_zero, List.set_cons_succ, hG] at hO); clear hG; have hF := hO; (try simp only [Own, Item.Holds, apartI, CellsAt, Nat.reduceAdd, Nat.zero_add, List.mem_cons, List.not_mem_nil, or_false, forall_eq_or_imp, forall_eq, ne_eq, false_imp_iff, implies_true, and_true] at hF))
  clear HCL
  have wz : IntKind.i64.wrap (z - 1) = z - 1 := IntWalk.i64_in _ (by omega)
  have hX : XR14 r 60 0 _ := hO.base.2.mono (by omega)
  replace hO := hO.mono (Q := 62) hr0 (by omega)
  obtain ⟨y, hy⟩ : ∃ y, (if z ≤ 1 then 1 else if z < 256 then z else 256) = y := ⟨_, rfl⟩
  have hyb : 1 ≤ y ∧ y ≤ 256 := by split at hy <;> (try split at hy) <;> omega
  rcases (show z ≤ 1 ∨ (1 < z ∧ z < 256) ∨ 256 ≤ z by omega) with g | ⟨g, g'⟩ | g
  case' inl => (rw [if_pos g] at hy; have g3 : z < 256 := (by omega); have g4 : z ≤ 256 := (by omega); have g5 : ¬ 256 < z := (by omega); have g6 : ¬ 256 ≤ z := (by omega); have g7 : ¬ 1 < z := (by omega))
  case' inr.inl => (rw [if_neg (by omega), if_pos g'] at hy; have g1 : ¬ z < 1 := (by omega); have g4 : z ≤ 256 := (by omega); have g5 : ¬ 256 < z := (by omega); have g6 : ¬ 256 ≤ z := (by omega))
  case' inr.inr => (rw [if_neg (by omega), if_neg (by omega)] at hy; have g0 : (z < 256) = False := eq_false (by omega); have g1 : ¬ z < 256 := (by omega); have g2 : ¬ z < 1 := (by omega); have g3 : 1 ≤ z := (by omega); have g4 : 1 < z := (by omega); have g5 : ¬ z ≤ 1 := (by omega))
  all_goals
    subst hy
    go_upto_region 4 with fail
    apply own_code hO
    (repeat (first | (with_reducible exact hO) | (with_reducible apply Own.alloc) | (with_reducible apply Own.drew) | ((with_reducible apply Own.set_at); (focus (show _ ≤ _; omega)))))
    have hG := hF; clear hF; clear hO; intro hO
    (try simp only [World.size_alloc1, World.size_drew, Nat.reduceAdd] at hO); (try simp only [upd, updI, List.map_cons, List.map_nil, eq_self, if_true, if_false, reduceIte, Nat.add_eq_left, Nat.left_eq_add, Nat.reduceEqDiff, List.set_cons_zero, List.set_cons_succ, hG] at hO); clear hG
    refine region_own (X := XR14 r 60 0) [] (by kernel_rfl) (hO) (hX) (by first | exact XStab.true | exact XStab.rd | exact XStab.rdIf) ?_
    clear hO
    refine Sim.sP (i := 0) (d := some 27) (h := ?_)
    refine Sim.sP (i := 1) (d := some 28) (h := ?_)
    refine Sim.sP (i := 2) (d := some 29) (h := ?_)
    refine Sim.sP (i := 3) (d := some 30) (h := ?_)
    refine Sim.sP (i := 4) (d := some 31) (h := ?_)
    refine Sim.sP (i := 5) (d := some 32) (h := ?_)
    refine Sim.sO (i := 6) (d := some 33) (v := ?_) (hy := ?_) (h := ?_)
    rotate_left
    · first | refine Or.inl ⟨by rfl, fun w hO => ?_⟩ | (refine Or.inr ⟨by rfl, ?_⟩; with_reducible rfl)
      first | done | (have hF := hO; (try simp only [Own, Item.Holds, apartI, CellsAt, Nat.reduceAdd, Nat.zero_add, List.mem_cons, List.not_mem_nil, or_false, forall_eq_or_imp, forall_eq, ne_eq, false_imp_iff, implies_true, and_true] at hF); (((try have hc1 := own_sel15 (x := pk1) hO (by first | exact List.mem_cons_self | exact List.mem_cons_of_mem _ List.mem_cons_self) (by omega) (by omega)); (try have hc2 := own_num15 (p := pk0) (z := z) (i := sel15 pk1) hO (by first | exact List.mem_cons_self | exact List.mem_cons_of_mem _ List.mem_cons_self) (by omega) (by omega)))); refine Out.same ?_; go_simp; all_goals with_reducible rfl)
    refine Sim.sO (i := 7) (d := some 34) (v := ?_) (hy := ?_) (h := ?_)
    rotate_left
    · first | refine Or.inl ⟨by rfl, fun w hO => ?_⟩ | (refine Or.inr ⟨by rfl, ?_⟩; with_reducible rfl)
      first | done | (have hF := hO; (try simp only [Own, Item.Holds, apartI, CellsAt, Nat.reduceAdd, Nat.zero_add, List.mem_cons, List.not_mem_nil, or_false, forall_eq_or_imp, forall_eq, ne_eq, false_imp_iff, implies_true, and_true] at hF); (((try have hc1 := own_sel15 (x := pk1) hO (by first | exact List.mem_cons_self | exact List.mem_cons_of_mem _ List.mem_cons_self) (by omega) (by omega)); (try have hc2 := own_num15 (p := pk0) (z := z) (i := sel15 pk1) hO (by first | exact List.mem_cons_self | exact List.mem_cons_of_mem _ List.mem_cons_self) (by omega) (by omega)))); refine Out.same ?_; go_simp; all_goals with_reducible rfl)
    refine Sim.sP (i := 9) (d := some 36) (h := ?_)
    refine Sim.sP (i := 10) (d := some 37) (h := ?_)
    refine Sim.sP (i := 11) (d := some 38) (h := ?_)
    refine Sim.sP (i := 14) (d := some 41) (h := ?_)
    refine Sim.many (rs := [8, 13]) (by kernel_rfl) (by decide) ?_
    refine AllS.cons (oi := { dst := some 35, op := Op.call { callee := Callee.value (Operand.func 35), args := #[Operand.tmp 31, Operand.tmp 34], argTypes := #[46, 3] }, type := 3, pos := "l20_draw.go:809", after := #[{ on := 4, ground := Ground.data }, { on := 7, ground := Ground.data }], guard := none }) rfl (by rfl) (fun w0 hO hX K hK => ?_) ?_
    rotate_left
    refine AllS.cons (oi := { dst := some 40, op := Op.buildSlice 60 7 #[(0, Operand.const (Value.int IntKind.i64 0)), (1, Operand.const (Value.int IntKind.i64 0)), (2, Operand.const (Value.int IntKind.i64 0)), (3, Operand.const (Value.int IntKind.i64 0)), (4, Operand.const (Value.int IntKind.i64 1)), (5, Operand.const (Value.int IntKind.i64 2)), (6, Operand.const (Value.int IntKind.i64 3))], type := 60, pos := "l20_draw.go:809", after := #[{ on := 23, ground := Ground.gcOnly Departure.lateStores }], guard := none }) rfl (by rfl) (fun w0 hO hX K hK => ?_) ?_
    rotate_left
    exact AllS.nil
    rotate_right 2
    have hF := hO; (try simp only [Own, Item.Holds, apartI, CellsAt, Nat.reduceAdd, Nat.zero_add, List.mem_cons, List.not_mem_nil, or_false, forall_eq_or_imp, forall_eq, ne_eq, false_imp_iff, implies_true, and_true] at hF)
    go_simp
    refine (pick_any r (60 + 0) _ _ (show Rd _ r _ from hX.mono (by omega)) (by omega) (by omega) (by omega)).mono ?_
    rintro e wa ⟨pk0, pl0, pu0, rfl, hR4, hB4⟩
    try have bs0 := sel15_bd (x := pk1) pl1 pu1
    try have bt0 : sel15 pk1 < 4 := by omega
    apply hK _ _ _ (XR14 r 60 1)
    · exact Own.but hr0 (Stab.bd hr0) ⟨hO.base.1.trans hB4, hR4.mono (by omega)⟩ hB4 hO
    · first | exact trivial | exact hR4.mono (by omega)
    · first | exact XStab.true | exact XStab.rd
    · exact fun _ _ h => h
    clear hR4 hB4
    clear hK K hF hO
    try simp only [Act.put, List.setIfInBounds_toArray, List.set_cons_zero, List.set_cons_succ]
    refine Sim.many (rs := [12, 13, 15]) (by kernel_rfl) (by decide) ?_
    refine AllS.cons (oi := { dst := some 39, op := Op.buildSlice 60 4 #[(0, Operand.tmp 35), (1, Operand.tmp 37), (2, Operand.tmp 38), (3, Operand.const (Value.int IntKind.i64 (-1)))], type := 60, pos := "l20_draw.go:809", after := #[{ on := 8, ground := Ground.data }, { on := 10, ground := Ground.data }, { on := 11, ground := Ground.data }, { on := 23, ground := Ground.gcOnly Departure.lateStores }], guard := none }) rfl (by rfl) (fun w0 hO hX K hK => ?_) ?_
    rotate_left
    refine AllS.cons (oi := { dst := some 40, op := Op.buildSlice 60 7 #[(0, Operand.const (Value.int IntKind.i64 0)), (1, Operand.const (Value.int IntKind.i64 0)), (2, Operand.const (Value.int IntKind.i64 0)), (3, Operand.const (Value.int IntKind.i64 0)), (4, Operand.const (Value.int IntKind.i64 1)), (5, Operand.const (Value.int IntKind.i64 2)), (6, Operand.const (Value.int IntKind.i64 3))], type := 60, pos := "l20_draw.go:809", after := #[{ on := 23, ground := Ground.gcOnly Departure.lateStores }], guard := none }) rfl (by rfl) (fun w0 hO hX K hK => ?_) ?_
    rotate_left
    refine AllS.cons (oi := { dst := some 42, op := Op.call { callee := Callee.value (Operand.func 35), args := #[Operand.tmp 41, Operand.const (Value.int IntKind.i64 7)], argTypes := #[46, 3] }, type := 3, pos := "l20_draw.go:809", after := #[{ on := 14, ground := Ground.data }, { on := 8, ground := Ground.chain }], guard := none }) rfl (by rfl) (fun w0 hO hX K hK => ?_) ?_
    rotate_left
    exact AllS.nil
    rotate_right 3
    have hF := hO; (try simp only [Own, Item.Holds, apartI, CellsAt, Nat.reduceAdd, Nat.zero_add, List.mem_cons, List.not_mem_nil, or_false, forall_eq_or_imp, forall_eq, ne_eq, false_imp_iff, implies_true, and_true] at hF)
    go_simp
    apply hK _ _ _ (XR14 r 60 1)
    (repeat (first | (with_reducible exact hO) | (with_reducible apply Own.alloc) | (with_reducible apply Own.drew) | ((with_reducible apply Own.set_at); (focus (show _ ≤ _; omega)))))
    · first | exact trivial | exact hX | exact hX.below (below1 _) | exact RdIf.gone | exact hX.keep ((Below.refl _ _).setCell (by first | omega | (dsimp only; omega)) _)
    · exact (by first | exact XStab.true | exact XStab.rd | exact XStab.rdIf)
    · first | exact fun _ _ h => h.2 | exact fun _ _ h => h | exact fun h => absurd h (by decide)
    try simp only [upd, updI, List.map_cons, List.map_nil, eq_self, if_true, if_false, reduceIte, Nat.add_eq_left, Nat.left_eq_add, Nat.reduceEqDiff, List.set_cons_zero, List.set_cons_succ, hF]
    clear hK K hF hO
    try simp only [Act.put, List.setIfInBounds_toArray, List.set_cons_zero, List.set_cons_succ]
    refine Sim.many (rs := [13, 15]) (by kernel_rfl) (by decide) ?_
    refine AllS.cons (oi := { dst := some 40, op := Op.buildSlice 60 7 #[(0, Operand.const (Value.int IntKind.i64 0)), (1, Operand.const (Value.int IntKind.i64 0)), (2, Operand.const (Value.int IntKind.i64 0)), (3, Operand.const (Value.int IntKind.i64 0)), (4, Operand.const (Value.int IntKind.i64 1)), (5, Operand.const (Value.int IntKind.i64 2)), (6, Operand.const (Value.int IntKind.i64 3))], type := 60, pos := "l20_draw.go:809", after := #[{ on := 23, ground := Ground.gcOnly Departure.lateStores }], guard := none }) rfl (by rfl) (fun w0 hO hX K hK => ?_) ?_
    rotate_left
    refine AllS.cons (oi := { dst := some 42, op := Op.call { callee := Callee.value (Operand.func 35), args := #[Operand.tmp 41, Operand.const (Value.int IntKind.i64 7)], argTypes := #[46, 3] }, type := 3, pos := "l20_draw.go:809", after := #[{ on := 14, ground := Ground.data }, { on := 8, ground := Ground.chain }], guard := none }) rfl (by rfl) (fun w0 hO hX K hK => ?_) ?_
    rotate_left
    exact AllS.nil
    rotate_right 2
    have hF := hO; (try simp only [Own, Item.Holds, apartI, CellsAt, Nat.reduceAdd, Nat.zero_add, List.mem_cons, List.not_mem_nil, or_false, forall_eq_or_imp, forall_eq, ne_eq, false_imp_iff, implies_true, and_true] at hF)
    go_simp
    apply hK _ _ _ (XR14 r 60 1)
    (repeat (first | (with_reducible exact hO) | (with_reducible apply Own.alloc) | (with_reducible apply Own.drew) | ((with_reducible apply Own.set_at); (focus (show _ ≤ _; omega)))))
    · first | exact trivial | exact hX | exact hX.below (below1 _) | exact RdIf.gone | exact hX.keep ((Below.refl _ _).setCell (by first | omega | (dsimp only; omega)) _)
    · exact (by first | exact XStab.true | exact XStab.rd | exact XStab.rdIf)
    · first | exact fun _ _ h => h.2 | exact fun _ _ h => h | exact fun h => absurd h (by decide)
    try simp only [upd, updI, List.map_cons, List.map_nil, eq_self, if_true, if_false, reduceIte, Nat.add_eq_left, Nat.left_eq_add, Nat.reduceEqDiff, List.set_cons_zero, List.set_cons_succ, hF]
    clear hK K hF hO
    try simp only [Act.put, List.setIfInBounds_toArray, List.set_cons_zero, List.set_cons_succ]
    refine Sim.one' (i := 15) (oi := { dst := some 42, op := Op.call { callee := Callee.value (Operand.func 35), args := #[Operand.tmp 41, Operand.const (Value.int IntKind.i64 7)], argTypes := #[46, 3] }, type := 3, pos := "l20_draw.go:809", after := #[{ on := 14, ground := Ground.data }, { on := 8, ground := Ground.chain }], guard := none }) (by kernel_rfl) rfl (by rfl) (fun w0 hO hX K hK => ?_)
    have hF := hO; (try simp only [Own, Item.Holds, apartI, CellsAt, Nat.reduceAdd, Nat.zero_add, List.mem_cons, List.not_mem_nil, or_false, forall_eq_or_imp, forall_eq, ne_eq, false_imp_iff, implies_true, and_true] at hF)
    go_simp
    refine (pick_any r (60 + 1) _ _ (show Rd _ r _ from hX.mono (by omega)) (by omega) (by omega) (by omega)).mono ?_
    rintro e wa ⟨pk1, pl1, pu1, rfl, hR4, hB4⟩
    try have bs1 := sel15_bd (x := pk1) pl1 pu1
    try have bt1 : sel15 pk1 < 4 := by omega
    apply hK _ _ _ (XR14 r 60 2)
    · exact Own.but hr0 (Stab.bd hr0) ⟨hO.base.1.trans hB4, hR4.mono (by omega)⟩ hB4 hO
    · first | exact trivial | exact hR4.mono (by omega)
    · first | exact XStab.true | exact XStab.rd
    · exact fun _ _ h => h
    clear hR4 hB4
    clear hK K hF hO
    try simp only [Act.put, List.setIfInBounds_toArray, List.set_cons_zero, List.set_cons_succ]
    refine Sim.sP (i := 16) (d := some 43) (h := ?_)
    refine Sim.sO (i := 17) (d := some 44) (v := ?_) (hy := ?_) (h := ?_)
    rotate_left
    · first | refine Or.inl ⟨by rfl, fun w hO => ?_⟩ | (refine Or.inr ⟨by rfl, ?_⟩; with_reducible rfl)
      first | done | (have hF := hO; (try simp only [Own, Item.Holds, apartI, CellsAt, Nat.reduceAdd, Nat.zero_add, List.mem_cons, List.not_mem_nil, or_false, forall_eq_or_imp, forall_eq, ne_eq, false_imp_iff, implies_true, and_true] at hF); (((try have hc1 := own_sel15 (x := pk1) hO (by first | exact List.mem_cons_self | exact List.mem_cons_of_mem _ List.mem_cons_self) (by omega) (by omega)); (try have hc2 := own_num15 (p := pk0) (z := z) (i := sel15 pk1) hO (by first | exact List.mem_cons_self | exact List.mem_cons_of_mem _ List.mem_cons_self) (by omega) (by omega)))); refine Out.same ?_; go_simp; all_goals with_reducible rfl)
    refine Sim.sP (i := 18) (d := some 45) (h := ?_)
    refine Sim.sO (i := 19) (d := some 46) (v := ?_) (hy := ?_) (h := ?_)
    rotate_left
    · first | refine Or.inl ⟨by rfl, fun w hO => ?_⟩ | (refine Or.inr ⟨by rfl, ?_⟩; with_reducible rfl)
      first | done | (have hF := hO; (try simp only [Own, Item.Holds, apartI, CellsAt, Nat.reduceAdd, Nat.zero_add, List.mem_cons, List.not_mem_nil, or_false, forall_eq_or_imp, forall_eq, ne_eq, false_imp_iff, implies_true, and_true] at hF); (((try have hc1 := own_sel15 (x := pk1) hO (by first | exact List.mem_cons_self | exact List.mem_cons_of_mem _ List.mem_cons_self) (by omega) (by omega)); (try have hc2 := own_num15 (p := pk0) (z := z) (i := sel15 pk1) hO (by first | exact List.mem_cons_self | exact List.mem_cons_of_mem _ List.mem_cons_self) (by omega) (by omega)))); refine Out.same ?_; go_simp; all_goals with_reducible rfl)
    refine Sim.sP (i := 20) (d := some 2) (h := ?_)
    refine Sim.sP (i := 21) (d := some 3) (h := ?_)
    refine Sim.sP (i := 22) (d := some 4) (h := ?_)
    refine Sim.sP (i := 23) (d := some 5) (h := ?_)
    refine Sim.sP (i := 24) (d := some 6) (h := ?_)
    refine Sim.done (by kernel_rfl) (fun w1 hO hX => ?_) _
    (try simp only [World.size_alloc1, World.size_drew, Nat.reduceAdd] at hO); (try simp only [upd, updI, List.map_cons, List.map_nil, eq_self, if_true, if_false, reduceIte, Nat.add_eq_left, Nat.left_eq_add, Nat.reduceEqDiff, List.set_cons_zero, List.set_cons_succ] at hO)
    have hF := hO; (try simp only [Own, Item.Holds, apartI, CellsAt, Nat.reduceAdd, Nat.zero_add, List.mem_cons, List.not_mem_nil, or_false, forall_eq_or_imp, forall_eq, ne_eq, false_imp_iff, implies_true, and_true] at hF)
    rotate_left 1
    have hF := hO; (try simp only [Own, Item.Holds, apartI, CellsAt, Nat.reduceAdd, Nat.zero_add, List.mem_cons, List.not_mem_nil, or_false, forall_eq_or_imp, forall_eq, ne_eq, false_imp_iff, implies_true, and_true] at hF)
    go_simp
    refine (pick_any r (60 + 1) _ _ (show Rd _ r _ from hX.mono (by omega)) (by omega) (by omega) (by omega)).mono ?_
    rintro e wa ⟨pk1, pl1, pu1, rfl, hR4, hB4⟩
    try have bs1 := sel15_bd (x := pk1) pl1 pu1
    try have bt1 : sel15 pk1 < 4 := by omega
    apply hK _ _ _ (XR14 r 60 2)
    · exact Own.but hr0 (Stab.bd hr0) ⟨hO.base.1.trans hB4, hR4.mono (by omega)⟩ hB4 hO
    · first | exact trivial | exact hR4.mono (by omega)
    · first | exact XStab.true | exact XStab.rd
    · exact fun _ _ h => h
    clear hR4 hB4
    clear hK K hF hO
    try simp only [Act.put, List.setIfInBounds_toArray, List.set_cons_zero, List.set_cons_succ]
    refine Sim.sP (i := 20) (d := some 2) (h := ?_)
    refine Sim.sP (i := 21) (d := some 3) (h := ?_)
    refine Sim.sP (i := 22) (d := some 4) (h := ?_)
    refine Sim.sP (i := 23) (d := some 5) (h := ?_)
    refine Sim.one' (i := 13) (oi := { dst := some 40, op := Op.buildSlice 60 7 #[(0, Operand.const (Value.int IntKind.i64 0)), (1, Operand.const (Value.int IntKind.i64 0)), (2, Operand.const (Value.int IntKind.i64 0)), (3, Operand.const (Value.int IntKind.i64 0)), (4, Operand.const (Value.int IntKind.i64 1)), (5, Operand.const (Value.int IntKind.i64 2)), (6, Operand.const (Value.int IntKind.i64 3))], type := 60, pos := "l20_draw.go:809", after := #[{ on := 23, ground := Ground.gcOnly Departure.lateStores }], guard := none }) (by kernel_rfl) rfl (by rfl) (fun w0 hO hX K hK => ?_)
    have hF := hO; (try simp only [Own, Item.Holds, apartI, CellsAt, Nat.reduceAdd, Nat.zero_add, List.mem_cons, List.not_mem_nil, or_false, forall_eq_or_imp, forall_eq, ne_eq, false_imp_iff, implies_true, and_true] at hF)
    go_simp
    apply hK _ _ _ (XR14 r 60 2)
    (repeat (first | (with_reducible exact hO) | (with_reducible apply Own.alloc) | (with_reducible apply Own.drew) | ((with_reducible apply Own.set_at); (focus (show _ ≤ _; omega)))))
    · first | exact trivial | exact hX | exact hX.below (below1 _) | exact RdIf.gone | exact hX.keep ((Below.refl _ _).setCell (by first | omega | (dsimp only; omega)) _)
    · exact (by first | exact XStab.true | exact XStab.rd | exact XStab.rdIf)
    · first | exact fun _ _ h => h.2 | exact fun _ _ h => h | exact fun h => absurd h (by decide)
    try simp only [upd, updI, List.map_cons, List.map_nil, eq_self, if_true, if_false, reduceIte, Nat.add_eq_left, Nat.left_eq_add, Nat.reduceEqDiff, List.set_cons_zero, List.set_cons_succ, hF]
    clear hK K hF hO
    try simp only [Act.put, List.setIfInBounds_toArray, List.set_cons_zero, List.set_cons_succ]
    refine Sim.sP (i := 16) (d := some 43) (h := ?_)
    refine Sim.sO (i := 17) (d := some 44) (v := ?_) (hy := ?_) (h := ?_)
    rotate_left
    · first | refine Or.inl ⟨by rfl, fun w hO => ?_⟩ | (refine Or.inr ⟨by rfl, ?_⟩; with_reducible rfl)
      first | done | (have hF := hO; (try simp only [Own, Item.Holds, apartI, CellsAt, Nat.reduceAdd, Nat.zero_add, List.mem_cons, List.not_mem_nil, or_false, forall_eq_or_imp, forall_eq, ne_eq, false_imp_iff, implies_true, and_true] at hF); (((try have hc1 := own_sel15 (x := pk1) hO (by first | exact List.mem_cons_self | exact List.mem_cons_of_mem _ List.mem_cons_self) (by omega) (by omega)); (try have hc2 := own_num15 (p := pk0) (z := z) (i := sel15 pk1) hO (by first | exact List.mem_cons_self | exact List.mem_cons_of_mem _ List.mem_cons_self) (by omega) (by omega)))); refine Out.same ?_; go_simp; all_goals with_reducible rfl)
    refine Sim.sP (i := 18) (d := some 45) (h := ?_)
    refine Sim.sO (i := 19) (d := some 46) (v := ?_) (hy := ?_) (h := ?_)
    rotate_left
    · first | refine Or.inl ⟨by rfl, fun w hO => ?_⟩ | (refine Or.inr ⟨by rfl, ?_⟩; with_reducible rfl)
      first | done | (have hF := hO; (try simp only [Own, Item.Holds, apartI, CellsAt, Nat.reduceAdd, Nat.zero_add, List.mem_cons, List.not_mem_nil, or_false, forall_eq_or_imp, forall_eq, ne_eq, false_imp_iff, implies_true, and_true] at hF); (((try have hc1 := own_sel15 (x := pk1) hO (by first | exact List.mem_cons_self | exact List.mem_cons_of_mem _ List.mem_cons_self) (by omega) (by omega)); (try have hc2 := own_num15 (p := pk0) (z := z) (i := sel15 pk1) hO (by first | exact List.mem_cons_self | exact List.mem_cons_of_mem _ List.mem_cons_self) (by omega) (by omega)))); refine Out.same ?_; go_simp; all_goals with_reducible rfl)
    refine Sim.sP (i := 24) (d := some 6) (h := ?_)
    refine Sim.done (by kernel_rfl) (fun w1 hO hX => ?_) _
    (try simp only [World.size_alloc1, World.size_drew, Nat.reduceAdd] at hO); (try simp only [upd, updI, List.map_cons, List.map_nil, eq_self, if_true, if_false, reduceIte, Nat.add_eq_left, Nat.left_eq_add, Nat.reduceEqDiff, List.set_cons_zero, List.set_cons_succ] at hO)
    have hF := hO; (try simp only [Own, Item.Holds, apartI, CellsAt, Nat.reduceAdd, Nat.zero_add, List.mem_cons, List.not_mem_nil, or_false, forall_eq_or_imp, forall_eq, ne_eq, false_imp_iff, implies_true, and_true] at hF)
    rotate_left 1
    have hF := hO; (try simp only [Own, Item.Holds, apartI, CellsAt, Nat.reduceAdd, Nat.zero_add, List.mem_cons, List.not_mem_nil, or_false, forall_eq_or_imp, forall_eq, ne_eq, false_imp_iff, implies_true, and_true] at hF)
    go_simp
    apply hK _ _ _ (XR14 r 60 1)
    (repeat (first | (with_reducible exact hO) | (with_reducible apply Own.alloc) | (with_reducible apply Own.drew) | ((with_reducible apply Own.set_at); (focus (show _ ≤ _; omega)))))
    · first | exact trivial | exact hX | exact hX.below (below1 _) | exact RdIf.gone | exact hX.keep ((Below.refl _ _).setCell (by first | omega | (dsimp only; omega)) _)
    · exact (by first | exact XStab.true | exact XStab.rd | exact XStab.rdIf)
    · first | exact fun _ _ h => h.2 | exact fun _ _ h => h | exact fun h => absurd h (by decide)
    try simp only [upd, updI, List.map_cons, List.map_nil, eq_self, if_true, if_false, reduceIte, Nat.add_eq_left, Nat.left_eq_add, Nat.reduceEqDiff, List.set_cons_zero, List.set_cons_succ, hF]
    clear hK K hF hO
    try simp only [Act.put, List.setIfInBounds_toArray, List.set_cons_zero, List.set_cons_succ]
    refine Sim.many (rs := [12, 15]) (by kernel_rfl) (by decide) ?_
    refine AllS.cons (oi := { dst := some 39, op := Op.buildSlice 60 4 #[(0, Operand.tmp 35), (1, Operand.tmp 37), (2, Operand.tmp 38), (3, Operand.const (Value.int IntKind.i64 (-1)))], type := 60, pos := "l20_draw.go:809", after := #[{ on := 8, ground := Ground.data }, { on := 10, ground := Ground.data }, { on := 11, ground := Ground.data }, { on := 23, ground := Ground.gcOnly Departure.lateStores }], guard := none }) rfl (by rfl) (fun w0 hO hX K hK => ?_) ?_
    rotate_left
    refine AllS.cons (oi := { dst := some 42, op := Op.call { callee := Callee.value (Operand.func 35), args := #[Operand.tmp 41, Operand.const (Value.int IntKind.i64 7)], argTypes := #[46, 3] }, type := 3, pos := "l20_draw.go:809", after := #[{ on := 14, ground := Ground.data }, { on := 8, ground := Ground.chain }], guard := none }) rfl (by rfl) (fun w0 hO hX K hK => ?_) ?_
    rotate_left
    exact AllS.nil
    rotate_right 2
    have hF := hO; (try simp only [Own, Item.Holds, apartI, CellsAt, Nat.reduceAdd, Nat.zero_add, List.mem_cons, List.not_mem_nil, or_false, forall_eq_or_imp, forall_eq, ne_eq, false_imp_iff, implies_true, and_true] at hF)
    go_simp
    apply hK _ _ _ (XR14 r 60 1)
    (repeat (first | (with_reducible exact hO) | (with_reducible apply Own.alloc) | (with_reducible apply Own.drew) | ((with_reducible apply Own.set_at); (focus (show _ ≤ _; omega)))))
    · first | exact trivial | exact hX | exact hX.below (below1 _) | exact RdIf.gone | exact hX.keep ((Below.refl _ _).setCell (by first | omega | (dsimp only; omega)) _)
    · exact (by first | exact XStab.true | exact XStab.rd | exact XStab.rdIf)
    · first | exact fun _ _ h => h.2 | exact fun _ _ h => h | exact fun h => absurd h (by decide)
    try simp only [upd, updI, List.map_cons, List.map_nil, eq_self, if_true, if_false, reduceIte, Nat.add_eq_left, Nat.left_eq_add, Nat.reduceEqDiff, List.set_cons_zero, List.set_cons_succ, hF]
    clear hK K hF hO
    try simp only [Act.put, List.setIfInBounds_toArray, List.set_cons_zero, List.set_cons_succ]
    refine Sim.one' (i := 15) (oi := { dst := some 42, op := Op.call { callee := Callee.value (Operand.func 35), args := #[Operand.tmp 41, Operand.const (Value.int IntKind.i64 7)], argTypes := #[46, 3] }, type := 3, pos := "l20_draw.go:809", after := #[{ on := 14, ground := Ground.data }, { on := 8, ground := Ground.chain }], guard := none }) (by kernel_rfl) rfl (by rfl) (fun w0 hO hX K hK => ?_)
    have hF := hO; (try simp only [Own, Item.Holds, apartI, CellsAt, Nat.reduceAdd, Nat.zero_add, List.mem_cons, List.not_mem_nil, or_false, forall_eq_or_imp, forall_eq, ne_eq, false_imp_iff, implies_true, and_true] at hF)
    go_simp
    refine (pick_any r (60 + 1) _ _ (show Rd _ r _ from hX.mono (by omega)) (by omega) (by omega) (by omega)).mono ?_
    rintro e wa ⟨pk1, pl1, pu1, rfl, hR4, hB4⟩
    try have bs1 := sel15_bd (x := pk1) pl1 pu1
    try have bt1 : sel15 pk1 < 4 := by omega
    apply hK _ _ _ (XR14 r 60 2)
    · exact Own.but hr0 (Stab.bd hr0) ⟨hO.base.1.trans hB4, hR4.mono (by omega)⟩ hB4 hO
    · first | exact trivial | exact hR4.mono (by omega)
    · first | exact XStab.true | exact XStab.rd
    · exact fun _ _ h => h
    clear hR4 hB4
    clear hK K hF hO
    try simp only [Act.put, List.setIfInBounds_toArray, List.set_cons_zero, List.set_cons_succ]
    refine Sim.sP (i := 16) (d := some 43) (h := ?_)
    refine Sim.sO (i := 17) (d := some 44) (v := ?_) (hy := ?_) (h := ?_)
    rotate_left
    · first | refine Or.inl ⟨by rfl, fun w hO => ?_⟩ | (refine Or.inr ⟨by rfl, ?_⟩; with_reducible rfl)
      first | done | (have hF := hO; (try simp only [Own, Item.Holds, apartI, CellsAt, Nat.reduceAdd, Nat.zero_add, List.mem_cons, List.not_mem_nil, or_false, forall_eq_or_imp, forall_eq, ne_eq, false_imp_iff, implies_true, and_true] at hF); (((try have hc1 := own_sel15 (x := pk1) hO (by first | exact List.mem_cons_self | exact List.mem_cons_of_mem _ List.mem_cons_self) (by omega) (by omega)); (try have hc2 := own_num15 (p := pk0) (z := z) (i := sel15 pk1) hO (by first | exact List.mem_cons_self | exact List.mem_cons_of_mem _ List.mem_cons_self) (by omega) (by omega)))); refine Out.same ?_; go_simp; all_goals with_reducible rfl)
    refine Sim.sP (i := 18) (d := some 45) (h := ?_)
    refine Sim.sO (i := 19) (d := some 46) (v := ?_) (hy := ?_) (h := ?_)
    rotate_left
    · first | refine Or.inl ⟨by rfl, fun w hO => ?_⟩ | (refine Or.inr ⟨by rfl, ?_⟩; with_reducible rfl)
      first | done | (have hF := hO; (try simp only [Own, Item.Holds, apartI, CellsAt, Nat.reduceAdd, Nat.zero_add, List.mem_cons, List.not_mem_nil, or_false, forall_eq_or_imp, forall_eq, ne_eq, false_imp_iff, implies_true, and_true] at hF); (((try have hc1 := own_sel15 (x := pk1) hO (by first | exact List.mem_cons_self | exact List.mem_cons_of_mem _ List.mem_cons_self) (by omega) (by omega)); (try have hc2 := own_num15 (p := pk0) (z := z) (i := sel15 pk1) hO (by first | exact List.mem_cons_self | exact List.mem_cons_of_mem _ List.mem_cons_self) (by omega) (by omega)))); refine Out.same ?_; go_simp; all_goals with_reducible rfl)
    refine Sim.sP (i := 20) (d := some 2) (h := ?_)
    refine Sim.sP (i := 21) (d := some 3) (h := ?_)
    refine Sim.sP (i := 22) (d := some 4) (h := ?_)
    refine Sim.sP (i := 23) (d := some 5) (h := ?_)
    refine Sim.sP (i := 24) (d := some 6) (h := ?_)
    refine Sim.done (by kernel_rfl) (fun w1 hO hX => ?_) _
    (try simp only [World.size_alloc1, World.size_drew, Nat.reduceAdd] at hO); (try simp only [upd, updI, List.map_cons, List.map_nil, eq_self, if_true, if_false, reduceIte, Nat.add_eq_left, Nat.left_eq_add, Nat.reduceEqDiff, List.set_cons_zero, List.set_cons_succ] at hO)
    have hF := hO; (try simp only [Own, Item.Holds, apartI, CellsAt, Nat.reduceAdd, Nat.zero_add, List.mem_cons, List.not_mem_nil, or_false, forall_eq_or_imp, forall_eq, ne_eq, false_imp_iff, implies_true, and_true] at hF)
    rotate_left 1
    have hF := hO; (try simp only [Own, Item.Holds, apartI, CellsAt, Nat.reduceAdd, Nat.zero_add, List.mem_cons, List.not_mem_nil, or_false, forall_eq_or_imp, forall_eq, ne_eq, false_imp_iff, implies_true, and_true] at hF)
    go_simp
    refine (pick_any r (60 + 1) _ _ (show Rd _ r _ from hX.mono (by omega)) (by omega) (by omega) (by omega)).mono ?_
    rintro e wa ⟨pk1, pl1, pu1, rfl, hR4, hB4⟩
    try have bs1 := sel15_bd (x := pk1) pl1 pu1
    try have bt1 : sel15 pk1 < 4 := by omega
    apply hK _ _ _ (XR14 r 60 2)
    · exact Own.but hr0 (Stab.bd hr0) ⟨hO.base.1.trans hB4, hR4.mono (by omega)⟩ hB4 hO
    · first | exact trivial | exact hR4.mono (by omega)
    · first | exact XStab.true | exact XStab.rd
    · exact fun _ _ h => h
    clear hR4 hB4
    clear hK K hF hO
    try simp only [Act.put, List.setIfInBounds_toArray, List.set_cons_zero, List.set_cons_succ]
    refine Sim.sP (i := 16) (d := some 43) (h := ?_)
    refine Sim.sO (i := 17) (d := some 44) (v := ?_) (hy := ?_) (h := ?_)
    rotate_left
    · first | refine Or.inl ⟨by rfl, fun w hO => ?_⟩ | (refine Or.inr ⟨by rfl, ?_⟩; with_reducible rfl)
      first | done | (have hF := hO; (try simp only [Own, Item.Holds, apartI, CellsAt, Nat.reduceAdd, Nat.zero_add, List.mem_cons, List.not_mem_nil, or_false, forall_eq_or_imp, forall_eq, ne_eq, false_imp_iff, implies_true, and_true] at hF); (((try have hc1 := own_sel15 (x := pk1) hO (by first | exact List.mem_cons_self | exact List.mem_cons_of_mem _ List.mem_cons_self) (by omega) (by omega)); (try have hc2 := own_num15 (p := pk0) (z := z) (i := sel15 pk1) hO (by first | exact List.mem_cons_self | exact List.mem_cons_of_mem _ List.mem_cons_self) (by omega) (by omega)))); refine Out.same ?_; go_simp; all_goals with_reducible rfl)
    refine Sim.sP (i := 20) (d := some 2) (h := ?_)
    refine Sim.sP (i := 21) (d := some 3) (h := ?_)
    refine Sim.sP (i := 22) (d := some 4) (h := ?_)
    refine Sim.sP (i := 23) (d := some 5) (h := ?_)
    refine Sim.one' (i := 12) (oi := { dst := some 39, op := Op.buildSlice 60 4 #[(0, Operand.tmp 35), (1, Operand.tmp 37), (2, Operand.tmp 38), (3, Operand.const (Value.int IntKind.i64 (-1)))], type := 60, pos := "l20_draw.go:809", after := #[{ on := 8, ground := Ground.data }, { on := 10, ground := Ground.data }, { on := 11, ground := Ground.data }, { on := 23, ground := Ground.gcOnly Departure.lateStores }], guard := none }) (by kernel_rfl) rfl (by rfl) (fun w0 hO hX K hK => ?_)
    have hF := hO; (try simp only [Own, Item.Holds, apartI, CellsAt, Nat.reduceAdd, Nat.zero_add, List.mem_cons, List.not_mem_nil, or_false, forall_eq_or_imp, forall_eq, ne_eq, false_imp_iff, implies_true, and_true] at hF)
    go_simp
    apply hK _ _ _ (XR14 r 60 2)
    (repeat (first | (with_reducible exact hO) | (with_reducible apply Own.alloc) | (with_reducible apply Own.drew) | ((with_reducible apply Own.set_at); (focus (show _ ≤ _; omega)))))
    · first | exact trivial | exact hX | exact hX.below (below1 _) | exact RdIf.gone | exact hX.keep ((Below.refl _ _).setCell (by first | omega | (dsimp only; omega)) _)
    · exact (by first | exact XStab.true | exact XStab.rd | exact XStab.rdIf)
    · first | exact fun _ _ h => h.2 | exact fun _ _ h => h | exact fun h => absurd h (by decide)
    try simp only [upd, updI, List.map_cons, List.map_nil, eq_self, if_true, if_false, reduceIte, Nat.add_eq_left, Nat.left_eq_add, Nat.reduceEqDiff, List.set_cons_zero, List.set_cons_succ, hF]
    clear hK K hF hO
    try simp only [Act.put, List.setIfInBounds_toArray, List.set_cons_zero, List.set_cons_succ]
    refine Sim.sP (i := 18) (d := some 45) (h := ?_)
    refine Sim.sO (i := 19) (d := some 46) (v := ?_) (hy := ?_) (h := ?_)
    rotate_left
    · first | refine Or.inl ⟨by rfl, fun w hO => ?_⟩ | (refine Or.inr ⟨by rfl, ?_⟩; with_reducible rfl)
      first | done | (have hF := hO; (try simp only [Own, Item.Holds, apartI, CellsAt, Nat.reduceAdd, Nat.zero_add, List.mem_cons, List.not_mem_nil, or_false, forall_eq_or_imp, forall_eq, ne_eq, false_imp_iff, implies_true, and_true] at hF); (((try have hc1 := own_sel15 (x := pk1) hO (by first | exact List.mem_cons_self | exact List.mem_cons_of_mem _ List.mem_cons_self) (by omega) (by omega)); (try have hc2 := own_num15 (p := pk0) (z := z) (i := sel15 pk1) hO (by first | exact List.mem_cons_self | exact List.mem_cons_of_mem _ List.mem_cons_self) (by omega) (by omega)))); refine Out.same ?_; go_simp; all_goals with_reducible rfl)
    refine Sim.sP (i := 24) (d := some 6) (h := ?_)
    refine Sim.done (by kernel_rfl) (fun w1 hO hX => ?_) _
    (try simp only [World.size_alloc1, World.size_drew, Nat.reduceAdd] at hO); (try simp only [upd, updI, List.map_cons, List.map_nil, eq_self, if_true, if_false, reduceIte, Nat.add_eq_left, Nat.left_eq_add, Nat.reduceEqDiff, List.set_cons_zero, List.set_cons_succ] at hO)
    have hF := hO; (try simp only [Own, Item.Holds, apartI, CellsAt, Nat.reduceAdd, Nat.zero_add, List.mem_cons, List.not_mem_nil, or_false, forall_eq_or_imp, forall_eq, ne_eq, false_imp_iff, implies_true, and_true] at hF)
    rotate_left 1
    have hF := hO; (try simp only [Own, Item.Holds, apartI, CellsAt, Nat.reduceAdd, Nat.zero_add, List.mem_cons, List.not_mem_nil, or_false, forall_eq_or_imp, forall_eq, ne_eq, false_imp_iff, implies_true, and_true] at hF)
    go_simp
    refine (pick_any r (60 + 1) _ _ (show Rd _ r _ from hX.mono (by omega)) (by omega) (by omega) (by omega)).mono ?_
    rintro e wa ⟨pk1, pl1, pu1, rfl, hR4, hB4⟩
    try have bs1 := sel15_bd (x := pk1) pl1 pu1
    try have bt1 : sel15 pk1 < 4 := by omega
    apply hK _ _ _ (XR14 r 60 2)
    · exact Own.but hr0 (Stab.bd hr0) ⟨hO.base.1.trans hB4, hR4.mono (by omega)⟩ hB4 hO
    · first | exact trivial | exact hR4.mono (by omega)
    · first | exact XStab.true | exact XStab.rd
    · exact fun _ _ h => h
    clear hR4 hB4
    clear hK K hF hO
    try simp only [Act.put, List.setIfInBounds_toArray, List.set_cons_zero, List.set_cons_succ]
    refine Sim.sP (i := 20) (d := some 2) (h := ?_)
    refine Sim.sP (i := 21) (d := some 3) (h := ?_)
    refine Sim.sP (i := 22) (d := some 4) (h := ?_)
    refine Sim.sP (i := 23) (d := some 5) (h := ?_)
    refine Sim.many (rs := [12, 13]) (by kernel_rfl) (by decide) ?_
    refine AllS.cons (oi := { dst := some 39, op := Op.buildSlice 60 4 #[(0, Operand.tmp 35), (1, Operand.tmp 37), (2, Operand.tmp 38), (3, Operand.const (Value.int IntKind.i64 (-1)))], type := 60, pos := "l20_draw.go:809", after := #[{ on := 8, ground := Ground.data }, { on := 10, ground := Ground.data }, { on := 11, ground := Ground.data }, { on := 23, ground := Ground.gcOnly Departure.lateStores }], guard := none }) rfl (by rfl) (fun w0 hO hX K hK => ?_) ?_
    rotate_left
    refine AllS.cons (oi := { dst := some 40, op := Op.buildSlice 60 7 #[(0, Operand.const (Value.int IntKind.i64 0)), (1, Operand.const (Value.int IntKind.i64 0)), (2, Operand.const (Value.int IntKind.i64 0)), (3, Operand.const (Value.int IntKind.i64 0)), (4, Operand.const (Value.int IntKind.i64 1)), (5, Operand.const (Value.int IntKind.i64 2)), (6, Operand.const (Value.int IntKind.i64 3))], type := 60, pos := "l20_draw.go:809", after := #[{ on := 23, ground := Ground.gcOnly Departure.lateStores }], guard := none }) rfl (by rfl) (fun w0 hO hX K hK => ?_) ?_
    rotate_left
    exact AllS.nil
    rotate_right 2
    have hF := hO; (try simp only [Own, Item.Holds, apartI, CellsAt, Nat.reduceAdd, Nat.zero_add, List.mem_cons, List.not_mem_nil, or_false, forall_eq_or_imp, forall_eq, ne_eq, false_imp_iff, implies_true, and_true] at hF)
    go_simp
    apply hK _ _ _ (XR14 r 60 2)
    (repeat (first | (with_reducible exact hO) | (with_reducible apply Own.alloc) | (with_reducible apply Own.drew) | ((with_reducible apply Own.set_at); (focus (show _ ≤ _; omega)))))
    · first | exact trivial | exact hX | exact hX.below (below1 _) | exact RdIf.gone | exact hX.keep ((Below.refl _ _).setCell (by first | omega | (dsimp only; omega)) _)
    · exact (by first | exact XStab.true | exact XStab.rd | exact XStab.rdIf)
    · first | exact fun _ _ h => h.2 | exact fun _ _ h => h | exact fun h => absurd h (by decide)
    try simp only [upd, updI, List.map_cons, List.map_nil, eq_self, if_true, if_false, reduceIte, Nat.add_eq_left, Nat.left_eq_add, Nat.reduceEqDiff, List.set_cons_zero, List.set_cons_succ, hF]
    clear hK K hF hO
    try simp only [Act.put, List.setIfInBounds_toArray, List.set_cons_zero, List.set_cons_succ]
    refine Sim.one' (i := 13) (oi := { dst := some 40, op := Op.buildSlice 60 7 #[(0, Operand.const (Value.int IntKind.i64 0)), (1, Operand.const (Value.int IntKind.i64 0)), (2, Operand.const (Value.int IntKind.i64 0)), (3, Operand.const (Value.int IntKind.i64 0)), (4, Operand.const (Value.int IntKind.i64 1)), (5, Operand.const (Value.int IntKind.i64 2)), (6, Operand.const (Value.int IntKind.i64 3))], type := 60, pos := "l20_draw.go:809", after := #[{ on := 23, ground := Ground.gcOnly Departure.lateStores }], guard := none }) (by kernel_rfl) rfl (by rfl) (fun w0 hO hX K hK => ?_)
    have hF := hO; (try simp only [Own, Item.Holds, apartI, CellsAt, Nat.reduceAdd, Nat.zero_add, List.mem_cons, List.not_mem_nil, or_false, forall_eq_or_imp, forall_eq, ne_eq, false_imp_iff, implies_true, and_true] at hF)
    go_simp
    apply hK _ _ _ (XR14 r 60 2)
    (repeat (first | (with_reducible exact hO) | (with_reducible apply Own.alloc) | (with_reducible apply Own.drew) | ((with_reducible apply Own.set_at); (focus (show _ ≤ _; omega)))))
    · first | exact trivial | exact hX | exact hX.below (below1 _) | exact RdIf.gone | exact hX.keep ((Below.refl _ _).setCell (by first | omega | (dsimp only; omega)) _)
    · exact (by first | exact XStab.true | exact XStab.rd | exact XStab.rdIf)
    · first | exact fun _ _ h => h.2 | exact fun _ _ h => h | exact fun h => absurd h (by decide)
    try simp only [upd, updI, List.map_cons, List.map_nil, eq_self, if_true, if_false, reduceIte, Nat.add_eq_left, Nat.left_eq_add, Nat.reduceEqDiff, List.set_cons_zero, List.set_cons_succ, hF]
    clear hK K hF hO
    try simp only [Act.put, List.setIfInBounds_toArray, List.set_cons_zero, List.set_cons_succ]
    refine Sim.sP (i := 16) (d := some 43) (h := ?_)
    refine Sim.sO (i := 17) (d := some 44) (v := ?_) (hy := ?_) (h := ?_)
    rotate_left
    · first | refine Or.inl ⟨by rfl, fun w hO => ?_⟩ | (refine Or.inr ⟨by rfl, ?_⟩; with_reducible rfl)
      first | done | (have hF := hO; (try simp only [Own, Item.Holds, apartI, CellsAt, Nat.reduceAdd, Nat.zero_add, List.mem_cons, List.not_mem_nil, or_false, forall_eq_or_imp, forall_eq, ne_eq, false_imp_iff, implies_true, and_true] at hF); (((try have hc1 := own_sel15 (x := pk1) hO (by first | exact List.mem_cons_self | exact List.mem_cons_of_mem _ List.mem_cons_self) (by omega) (by omega)); (try have hc2 := own_num15 (p := pk0) (z := z) (i := sel15 pk1) hO (by first | exact List.mem_cons_self | exact List.mem_cons_of_mem _ List.mem_cons_self) (by omega) (by omega)))); refine Out.same ?_; go_simp; all_goals with_reducible rfl)
    refine Sim.sP (i := 18) (d := some 45) (h := ?_)
    refine Sim.sO (i := 19) (d := some 46) (v := ?_) (hy := ?_) (h := ?_)
    rotate_left
    · first | refine Or.inl ⟨by rfl, fun w hO => ?_⟩ | (refine Or.inr ⟨by rfl, ?_⟩; with_reducible rfl)
      first | done | (have hF := hO; (try simp only [Own, Item.Holds, apartI, CellsAt, Nat.reduceAdd, Nat.zero_add, List.mem_cons, List.not_mem_nil, or_false, forall_eq_or_imp, forall_eq, ne_eq, false_imp_iff, implies_true, and_true] at hF); (((try have hc1 := own_sel15 (x := pk1) hO (by first | exact List.mem_cons_self | exact List.mem_cons_of_mem _ List.mem_cons_self) (by omega) (by omega)); (try have hc2 := own_num15 (p := pk0) (z := z) (i := sel15 pk1) hO (by first | exact List.mem_cons_self | exact List.mem_cons_of_mem _ List.mem_cons_self) (by omega) (by omega)))); refine Out.same ?_; go_simp; all_goals with_reducible rfl)
    refine Sim.sP (i := 24) (d := some 6) (h := ?_)
    refine Sim.done (by kernel_rfl) (fun w1 hO hX => ?_) _
    (try simp only [World.size_alloc1, World.size_drew, Nat.reduceAdd] at hO); (try simp only [upd, updI, List.map_cons, List.map_nil, eq_self, if_true, if_false, reduceIte, Nat.add_eq_left, Nat.left_eq_add, Nat.reduceEqDiff, List.set_cons_zero, List.set_cons_succ] at hO)
    have hF := hO; (try simp only [Own, Item.Holds, apartI, CellsAt, Nat.reduceAdd, Nat.zero_add, List.mem_cons, List.not_mem_nil, or_false, forall_eq_or_imp, forall_eq, ne_eq, false_imp_iff, implies_true, and_true] at hF)
    rotate_left 1
    have hF := hO; (try simp only [Own, Item.Holds, apartI, CellsAt, Nat.reduceAdd, Nat.zero_add, List.mem_cons, List.not_mem_nil, or_false, forall_eq_or_imp, forall_eq, ne_eq, false_imp_iff, implies_true, and_true] at hF)
    go_simp
    apply hK _ _ _ (XR14 r 60 2)
    (repeat (first | (with_reducible exact hO) | (with_reducible apply Own.alloc) | (with_reducible apply Own.drew) | ((with_reducible apply Own.set_at); (focus (show _ ≤ _; omega)))))
    · first | exact trivial | exact hX | exact hX.below (below1 _) | exact RdIf.gone | exact hX.keep ((Below.refl _ _).setCell (by first | omega | (dsimp only; omega)) _)
    · exact (by first | exact XStab.true | exact XStab.rd | exact XStab.rdIf)
    · first | exact fun _ _ h => h.2 | exact fun _ _ h => h | exact fun h => absurd h (by decide)
    try simp only [upd, updI, List.map_cons, List.map_nil, eq_self, if_true, if_false, reduceIte, Nat.add_eq_left, Nat.left_eq_add, Nat.reduceEqDiff, List.set_cons_zero, List.set_cons_succ, hF]
    clear hK K hF hO
    try simp only [Act.put, List.setIfInBounds_toArray, List.set_cons_zero, List.set_cons_succ]
    refine Sim.sP (i := 16) (d := some 43) (h := ?_)
    refine Sim.sO (i := 17) (d := some 44) (v := ?_) (hy := ?_) (h := ?_)
    rotate_left
    · first | refine Or.inl ⟨by rfl, fun w hO => ?_⟩ | (refine Or.inr ⟨by rfl, ?_⟩; with_reducible rfl)
      first | done | (have hF := hO; (try simp only [Own, Item.Holds, apartI, CellsAt, Nat.reduceAdd, Nat.zero_add, List.mem_cons, List.not_mem_nil, or_false, forall_eq_or_imp, forall_eq, ne_eq, false_imp_iff, implies_true, and_true] at hF); (((try have hc1 := own_sel15 (x := pk1) hO (by first | exact List.mem_cons_self | exact List.mem_cons_of_mem _ List.mem_cons_self) (by omega) (by omega)); (try have hc2 := own_num15 (p := pk0) (z := z) (i := sel15 pk1) hO (by first | exact List.mem_cons_self | exact List.mem_cons_of_mem _ List.mem_cons_self) (by omega) (by omega)))); refine Out.same ?_; go_simp; all_goals with_reducible rfl)
    refine Sim.one' (i := 12) (oi := { dst := some 39, op := Op.buildSlice 60 4 #[(0, Operand.tmp 35), (1, Operand.tmp 37), (2, Operand.tmp 38), (3, Operand.const (Value.int IntKind.i64 (-1)))], type := 60, pos := "l20_draw.go:809", after := #[{ on := 8, ground := Ground.data }, { on := 10, ground := Ground.data }, { on := 11, ground := Ground.data }, { on := 23, ground := Ground.gcOnly Departure.lateStores }], guard := none }) (by kernel_rfl) rfl (by rfl) (fun w0 hO hX K hK => ?_)
    have hF := hO; (try simp only [Own, Item.Holds, apartI, CellsAt, Nat.reduceAdd, Nat.zero_add, List.mem_cons, List.not_mem_nil, or_false, forall_eq_or_imp, forall_eq, ne_eq, false_imp_iff, implies_true, and_true] at hF)
    go_simp
    apply hK _ _ _ (XR14 r 60 2)
    (repeat (first | (with_reducible exact hO) | (with_reducible apply Own.alloc) | (with_reducible apply Own.drew) | ((with_reducible apply Own.set_at); (focus (show _ ≤ _; omega)))))
    · first | exact trivial | exact hX | exact hX.below (below1 _) | exact RdIf.gone | exact hX.keep ((Below.refl _ _).setCell (by first | omega | (dsimp only; omega)) _)
    · exact (by first | exact XStab.true | exact XStab.rd | exact XStab.rdIf)
    · first | exact fun _ _ h => h.2 | exact fun _ _ h => h | exact fun h => absurd h (by decide)
    try simp only [upd, updI, List.map_cons, List.map_nil, eq_self, if_true, if_false, reduceIte, Nat.add_eq_left, Nat.left_eq_add, Nat.reduceEqDiff, List.set_cons_zero, List.set_cons_succ, hF]
    clear hK K hF hO
    try simp only [Act.put, List.setIfInBounds_toArray, List.set_cons_zero, List.set_cons_succ]
    refine Sim.sP (i := 18) (d := some 45) (h := ?_)
    refine Sim.sO (i := 19) (d := some 46) (v := ?_) (hy := ?_) (h := ?_)
    rotate_left
    · first | refine Or.inl ⟨by rfl, fun w hO => ?_⟩ | (refine Or.inr ⟨by rfl, ?_⟩; with_reducible rfl)
      first | done | (have hF := hO; (try simp only [Own, Item.Holds, apartI, CellsAt, Nat.reduceAdd, Nat.zero_add, List.mem_cons, List.not_mem_nil, or_false, forall_eq_or_imp, forall_eq, ne_eq, false_imp_iff, implies_true, and_true] at hF); (((try have hc1 := own_sel15 (x := pk1) hO (by first | exact List.mem_cons_self | exact List.mem_cons_of_mem _ List.mem_cons_self) (by omega) (by omega)); (try have hc2 := own_num15 (p := pk0) (z := z) (i := sel15 pk1) hO (by first | exact List.mem_cons_self | exact List.mem_cons_of_mem _ List.mem_cons_self) (by omega) (by omega)))); refine Out.same ?_; go_simp; all_goals with_reducible rfl)
    refine Sim.sP (i := 24) (d := some 6) (h := ?_)
    refine Sim.done (by kernel_rfl) (fun w1 hO hX => ?_) _
    (try simp only [World.size_alloc1, World.size_drew, Nat.reduceAdd] at hO); (try simp only [upd, updI, List.map_cons, List.map_nil, eq_self, if_true, if_false, reduceIte, Nat.add_eq_left, Nat.left_eq_add, Nat.reduceEqDiff, List.set_cons_zero, List.set_cons_succ] at hO)
    have hF := hO; (try simp only [Own, Item.Holds, apartI, CellsAt, Nat.reduceAdd, Nat.zero_add, List.mem_cons, List.not_mem_nil, or_false, forall_eq_or_imp, forall_eq, ne_eq, false_imp_iff, implies_true, and_true] at hF)
    rotate_left 1
    have hF := hO; (try simp only [Own, Item.Holds, apartI, CellsAt, Nat.reduceAdd, Nat.zero_add, List.mem_cons, List.not_mem_nil, or_false, forall_eq_or_imp, forall_eq, ne_eq, false_imp_iff, implies_true, and_true] at hF)
    go_simp
    apply hK _ _ _ (XR14 r 60 0)
    (repeat (first | (with_reducible exact hO) | (with_reducible apply Own.alloc) | (with_reducible apply Own.drew) | ((with_reducible apply Own.set_at); (focus (show _ ≤ _; omega)))))
    · first | exact trivial | exact hX | exact hX.below (below1 _) | exact RdIf.gone | exact hX.keep ((Below.refl _ _).setCell (by first | omega | (dsimp only; omega)) _)
    · exact (by first | exact XStab.true | exact XStab.rd | exact XStab.rdIf)
    · first | exact fun _ _ h => h.2 | exact fun _ _ h => h | exact fun h => absurd h (by decide)
    try simp only [upd, updI, List.map_cons, List.map_nil, eq_self, if_true, if_false, reduceIte, Nat.add_eq_left, Nat.left_eq_add, Nat.reduceEqDiff, List.set_cons_zero, List.set_cons_succ, hF]
    clear hK K hF hO
    try simp only [Act.put, List.setIfInBounds_toArray, List.set_cons_zero, List.set_cons_succ]
    refine Sim.one' (i := 8) (oi := { dst := some 35, op := Op.call { callee := Callee.value (Operand.func 35), args := #[Operand.tmp 31, Operand.tmp 34], argTypes := #[46, 3] }, type := 3, pos := "l20_draw.go:809", after := #[{ on := 4, ground := Ground.data }, { on := 7, ground := Ground.data }], guard := none }) (by kernel_rfl) rfl (by rfl) (fun w0 hO hX K hK => ?_)
    have hF := hO; (try simp only [Own, Item.Holds, apartI, CellsAt, Nat.reduceAdd, Nat.zero_add, List.mem_cons, List.not_mem_nil, or_false, forall_eq_or_imp, forall_eq, ne_eq, false_imp_iff, implies_true, and_true] at hF)
    go_simp
    refine (pick_any r (60 + 0) _ _ (show Rd _ r _ from hX.mono (by omega)) (by omega) (by omega) (by omega)).mono ?_
    rintro e wa ⟨pk0, pl0, pu0, rfl, hR4, hB4⟩
    try have bs0 := sel15_bd (x := pk1) pl1 pu1
    try have bt0 : sel15 pk1 < 4 := by omega
    apply hK _ _ _ (XR14 r 60 1)
    · exact Own.but hr0 (Stab.bd hr0) ⟨hO.base.1.trans hB4, hR4.mono (by omega)⟩ hB4 hO
    · first | exact trivial | exact hR4.mono (by omega)
    · first | exact XStab.true | exact XStab.rd
    · exact fun _ _ h => h
    clear hR4 hB4
    clear hK K hF hO
    try simp only [Act.put, List.setIfInBounds_toArray, List.set_cons_zero, List.set_cons_succ]
    refine Sim.many (rs := [12, 15]) (by kernel_rfl) (by decide) ?_
    refine AllS.cons (oi := { dst := some 39, op := Op.buildSlice 60 4 #[(0, Operand.tmp 35), (1, Operand.tmp 37), (2, Operand.tmp 38), (3, Operand.const (Value.int IntKind.i64 (-1)))], type := 60, pos := "l20_draw.go:809", after := #[{ on := 8, ground := Ground.data }, { on := 10, ground := Ground.data }, { on := 11, ground := Ground.data }, { on := 23, ground := Ground.gcOnly Departure.lateStores }], guard := none }) rfl (by rfl) (fun w0 hO hX K hK => ?_) ?_
    rotate_left
    refine AllS.cons (oi := { dst := some 42, op := Op.call { callee := Callee.value (Operand.func 35), args := #[Operand.tmp 41, Operand.const (Value.int IntKind.i64 7)], argTypes := #[46, 3] }, type := 3, pos := "l20_draw.go:809", after := #[{ on := 14, ground := Ground.data }, { on := 8, ground := Ground.chain }], guard := none }) rfl (by rfl) (fun w0 hO hX K hK => ?_) ?_
    rotate_left
    exact AllS.nil
    rotate_right 2
    have hF := hO; (try simp only [Own, Item.Holds, apartI, CellsAt, Nat.reduceAdd, Nat.zero_add, List.mem_cons, List.not_mem_nil, or_false, forall_eq_or_imp, forall_eq, ne_eq, false_imp_iff, implies_true, and_true] at hF)
    go_simp
    apply hK _ _ _ (XR14 r 60 1)
    (repeat (first | (with_reducible exact hO) | (with_reducible apply Own.alloc) | (with_reducible apply Own.drew) | ((with_reducible apply Own.set_at); (focus (show _ ≤ _; omega)))))
    · first | exact trivial | exact hX | exact hX.below (below1 _) | exact RdIf.gone | exact hX.keep ((Below.refl _ _).setCell (by first | omega | (dsimp only; omega)) _)
    · exact (by first | exact XStab.true | exact XStab.rd | exact XStab.rdIf)
    · first | exact fun _ _ h => h.2 | exact fun _ _ h => h | exact fun h => absurd h (by decide)
    try simp only [upd, updI, List.map_cons, List.map_nil, eq_self, if_true, if_false, reduceIte, Nat.add_eq_left, Nat.left_eq_add, Nat.reduceEqDiff, List.set_cons_zero, List.set_cons_succ, hF]
    clear hK K hF hO
    try simp only [Act.put, List.setIfInBounds_toArray, List.set_cons_zero, List.set_cons_succ]
    refine Sim.one' (i := 15) (oi := { dst := some 42, op := Op.call { callee := Callee.value (Operand.func 35), args := #[Operand.tmp 41, Operand.const (Value.int IntKind.i64 7)], argTypes := #[46, 3] }, type := 3, pos := "l20_draw.go:809", after := #[{ on := 14, ground := Ground.data }, { on := 8, ground := Ground.chain }], guard := none }) (by kernel_rfl) rfl (by rfl) (fun w0 hO hX K hK => ?_)
    have hF := hO; (try simp only [Own, Item.Holds, apartI, CellsAt, Nat.reduceAdd, Nat.zero_add, List.mem_cons, List.not_mem_nil, or_false, forall_eq_or_imp, forall_eq, ne_eq, false_imp_iff, implies_true, and_true] at hF)
    go_simp
    refine (pick_any r (60 + 1) _ _ (show Rd _ r _ from hX.mono (by omega)) (by omega) (by omega) (by omega)).mono ?_
    rintro e wa ⟨pk1, pl1, pu1, rfl, hR4, hB4⟩
    try have bs1 := sel15_bd (x := pk1) pl1 pu1
    try have bt1 : sel15 pk1 < 4 := by omega
    apply hK _ _ _ (XR14 r 60 2)
    · exact Own.but hr0 (Stab.bd hr0) ⟨hO.base.1.trans hB4, hR4.mono (by omega)⟩ hB4 hO
    · first | exact trivial | exact hR4.mono (by omega)
    · first | exact XStab.true | exact XStab.rd
    · exact fun _ _ h => h
    clear hR4 hB4
    clear hK K hF hO
    try simp only [Act.put, List.setIfInBounds_toArray, List.set_cons_zero, List.set_cons_succ]
    refine Sim.sP (i := 16) (d := some 43) (h := ?_)
    refine Sim.sO (i := 17) (d := some 44) (v := ?_) (hy := ?_) (h := ?_)
    rotate_left
    · first | refine Or.inl ⟨by rfl, fun w hO => ?_⟩ | (refine Or.inr ⟨by rfl, ?_⟩; with_reducible rfl)
      first | done | (have hF := hO; (try simp only [Own, Item.Holds, apartI, CellsAt, Nat.reduceAdd, Nat.zero_add, List.mem_cons, List.not_mem_nil, or_false, forall_eq_or_imp, forall_eq, ne_eq, false_imp_iff, implies_true, and_true] at hF); (((try have hc1 := own_sel15 (x := pk1) hO (by first | exact List.mem_cons_self | exact List.mem_cons_of_mem _ List.mem_cons_self) (by omega) (by omega)); (try have hc2 := own_num15 (p := pk0) (z := z) (i := sel15 pk1) hO (by first | exact List.mem_cons_self | exact List.mem_cons_of_mem _ List.mem_cons_self) (by omega) (by omega)))); refine Out.same ?_; go_simp; all_goals with_reducible rfl)
    refine Sim.sP (i := 18) (d := some 45) (h := ?_)
    refine Sim.sO (i := 19) (d := some 46) (v := ?_) (hy := ?_) (h := ?_)
    rotate_left
    · first | refine Or.inl ⟨by rfl, fun w hO => ?_⟩ | (refine Or.inr ⟨by rfl, ?_⟩; with_reducible rfl)
      first | done | (have hF := hO; (try simp only [Own, Item.Holds, apartI, CellsAt, Nat.reduceAdd, Nat.zero_add, List.mem_cons, List.not_mem_nil, or_false, forall_eq_or_imp, forall_eq, ne_eq, false_imp_iff, implies_true, and_true] at hF); (((try have hc1 := own_sel15 (x := pk1) hO (by first | exact List.mem_cons_self | exact List.mem_cons_of_mem _ List.mem_cons_self) (by omega) (by omega)); (try have hc2 := own_num15 (p := pk0) (z := z) (i := sel15 pk1) hO (by first | exact List.mem_cons_self | exact List.mem_cons_of_mem _ List.mem_cons_self) (by omega) (by omega)))); refine Out.same ?_; go_simp; all_goals with_reducible rfl)
    refine Sim.sP (i := 20) (d := some 2) (h := ?_)
    refine Sim.sP (i := 21) (d := some 3) (h := ?_)
    refine Sim.sP (i := 22) (d := some 4) (h := ?_)
    refine Sim.sP (i := 23) (d := some 5) (h := ?_)
    refine Sim.sP (i := 24) (d := some 6) (h := ?_)
    refine Sim.done (by kernel_rfl) (fun w1 hO hX => ?_) _
    (try simp only [World.size_alloc1, World.size_drew, Nat.reduceAdd] at hO); (try simp only [upd, updI, List.map_cons, List.map_nil, eq_self, if_true, if_false, reduceIte, Nat.add_eq_left, Nat.left_eq_add, Nat.reduceEqDiff, List.set_cons_zero, List.set_cons_succ] at hO)
    have hF := hO; (try simp only [Own, Item.Holds, apartI, CellsAt, Nat.reduceAdd, Nat.zero_add, List.mem_cons, List.not_mem_nil, or_false, forall_eq_or_imp, forall_eq, ne_eq, false_imp_iff, implies_true, and_true] at hF)
    rotate_left 1
    have hF := hO; (try simp only [Own, Item.Holds, apartI, CellsAt, Nat.reduceAdd, Nat.zero_add, List.mem_cons, List.not_mem_nil, or_false, forall_eq_or_imp, forall_eq, ne_eq, false_imp_iff, implies_true, and_true] at hF)
    go_simp
    refine (pick_any r (60 + 1) _ _ (show Rd _ r _ from hX.mono (by omega)) (by omega) (by omega) (by omega)).mono ?_
    rintro e wa ⟨pk1, pl1, pu1, rfl, hR4, hB4⟩
    try have bs1 := sel15_bd (x := pk1) pl1 pu1
    try have bt1 : sel15 pk1 < 4 := by omega
    apply hK _ _ _ (XR14 r 60 2)
    · exact Own.but hr0 (Stab.bd hr0) ⟨hO.base.1.trans hB4, hR4.mono (by omega)⟩ hB4 hO
    · first | exact trivial | exact hR4.mono (by omega)
    · first | exact XStab.true | exact XStab.rd
    · exact fun _ _ h => h
    clear hR4 hB4
    clear hK K hF hO
    try simp only [Act.put, List.setIfInBounds_toArray, List.set_cons_zero, List.set_cons_succ]
    refine Sim.sP (i := 16) (d := some 43) (h := ?_)
    refine Sim.sO (i := 17) (d := some 44) (v := ?_) (hy := ?_) (h := ?_)
    rotate_left
    · first | refine Or.inl ⟨by rfl, fun w hO => ?_⟩ | (refine Or.inr ⟨by rfl, ?_⟩; with_reducible rfl)
      first | done | (have hF := hO; (try simp only [Own, Item.Holds, apartI, CellsAt, Nat.reduceAdd, Nat.zero_add, List.mem_cons, List.not_mem_nil, or_false, forall_eq_or_imp, forall_eq, ne_eq, false_imp_iff, implies_true, and_true] at hF); (((try have hc1 := own_sel15 (x := pk1) hO (by first | exact List.mem_cons_self | exact List.mem_cons_of_mem _ List.mem_cons_self) (by omega) (by omega)); (try have hc2 := own_num15 (p := pk0) (z := z) (i := sel15 pk1) hO (by first | exact List.mem_cons_self | exact List.mem_cons_of_mem _ List.mem_cons_self) (by omega) (by omega)))); refine Out.same ?_; go_simp; all_goals with_reducible rfl)
    refine Sim.sP (i := 20) (d := some 2) (h := ?_)
    refine Sim.sP (i := 21) (d := some 3) (h := ?_)
    refine Sim.sP (i := 22) (d := some 4) (h := ?_)
    refine Sim.sP (i := 23) (d := some 5) (h := ?_)
    refine Sim.one' (i := 12) (oi := { dst := some 39, op := Op.buildSlice 60 4 #[(0, Operand.tmp 35), (1, Operand.tmp 37), (2, Operand.tmp 38), (3, Operand.const (Value.int IntKind.i64 (-1)))], type := 60, pos := "l20_draw.go:809", after := #[{ on := 8, ground := Ground.data }, { on := 10, ground := Ground.data }, { on := 11, ground := Ground.data }, { on := 23, ground := Ground.gcOnly Departure.lateStores }], guard := none }) (by kernel_rfl) rfl (by rfl) (fun w0 hO hX K hK => ?_)
    have hF := hO; (try simp only [Own, Item.Holds, apartI, CellsAt, Nat.reduceAdd, Nat.zero_add, List.mem_cons, List.not_mem_nil, or_false, forall_eq_or_imp, forall_eq, ne_eq, false_imp_iff, implies_true, and_true] at hF)
    go_simp
    apply hK _ _ _ (XR14 r 60 2)
    (repeat (first | (with_reducible exact hO) | (with_reducible apply Own.alloc) | (with_reducible apply Own.drew) | ((with_reducible apply Own.set_at); (focus (show _ ≤ _; omega)))))
    · first | exact trivial | exact hX | exact hX.below (below1 _) | exact RdIf.gone | exact hX.keep ((Below.refl _ _).setCell (by first | omega | (dsimp only; omega)) _)
    · exact (by first | exact XStab.true | exact XStab.rd | exact XStab.rdIf)
    · first | exact fun _ _ h => h.2 | exact fun _ _ h => h | exact fun h => absurd h (by decide)
    try simp only [upd, updI, List.map_cons, List.map_nil, eq_self, if_true, if_false, reduceIte, Nat.add_eq_left, Nat.left_eq_add, Nat.reduceEqDiff, List.set_cons_zero, List.set_cons_succ, hF]
    clear hK K hF hO
    try simp only [Act.put, List.setIfInBounds_toArray, List.set_cons_zero, List.set_cons_succ]
    refine Sim.sP (i := 18) (d := some 45) (h := ?_)
    refine Sim.sO (i := 19) (d := some 46) (v := ?_) (hy := ?_) (h := ?_)
    rotate_left
    · first | refine Or.inl ⟨by rfl, fun w hO => ?_⟩ | (refine Or.inr ⟨by rfl, ?_⟩; with_reducible rfl)
      first | done | (have hF := hO; (try simp only [Own, Item.Holds, apartI, CellsAt, Nat.reduceAdd, Nat.zero_add, List.mem_cons, List.not_mem_nil, or_false, forall_eq_or_imp, forall_eq, ne_eq, false_imp_iff, implies_true, and_true] at hF); (((try have hc1 := own_sel15 (x := pk1) hO (by first | exact List.mem_cons_self | exact List.mem_cons_of_mem _ List.mem_cons_self) (by omega) (by omega)); (try have hc2 := own_num15 (p := pk0) (z := z) (i := sel15 pk1) hO (by first | exact List.mem_cons_self | exact List.mem_cons_of_mem _ List.mem_cons_self) (by omega) (by omega)))); refine Out.same ?_; go_simp; all_goals with_reducible rfl)
    refine Sim.sP (i := 24) (d := some 6) (h := ?_)
    refine Sim.done (by kernel_rfl) (fun w1 hO hX => ?_) _
    (try simp only [World.size_alloc1, World.size_drew, Nat.reduceAdd] at hO); (try simp only [upd, updI, List.map_cons, List.map_nil, eq_self, if_true, if_false, reduceIte, Nat.add_eq_left, Nat.left_eq_add, Nat.reduceEqDiff, List.set_cons_zero, List.set_cons_succ] at hO)
    have hF := hO; (try simp only [Own, Item.Holds, apartI, CellsAt, Nat.reduceAdd, Nat.zero_add, List.mem_cons, List.not_mem_nil, or_false, forall_eq_or_imp, forall_eq, ne_eq, false_imp_iff, implies_true, and_true] at hF)
    rotate_left 1
    all_goals
      have hmb := num15_bd (p := pk0) (z := z) (i := sel15 pk1) (by omega) (by omega) (by omega) hzb
      have HM := hid hmb
      have HO := hid (And.intro (SlAt.of_row (hO.holds (.row 37 3 (.slice Au k cu) k (pcC c)) (by simp))) (hO.base.1.below HB.out.1 HB.out.2))
      clear hmb hO hF hX
      go_wp2
      (try simp only [Exit.inBlock, Exit.then])
      refine bodyPost_ret (results5_15 rfl _ _ _) rfl ?_
      exact ⟨f, _, c, lo, hi, _, HV.out.1, HV.out.2.1, HV.out.2.2.1, HV.out.2.2.2.1, HV.out.2.2.2.2.1, HV.out.2.2.2.2.2, HM.out, rfl, by rw [HK.out]; exact HO.out.1, HO.out.2⟩
end Go.Proofs.YtieoobanpllmgaaDoor
