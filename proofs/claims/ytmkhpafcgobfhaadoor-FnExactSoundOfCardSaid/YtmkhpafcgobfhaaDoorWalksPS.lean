/- The laws' own functions over slices of pitches: equal ones are found equal; marks are laid and found. -/
import Derived.Test.YtmkhpafcgobfhaaDoorOwn
import Derived.Test.YtmkhpafcgobfhaaDoorWalks1
import Derived.Test.YtmkhpafcgobfhaaDoorRegionD
namespace Go.Proofs.YtmkhpafcgobfhaaDoor
set_option linter.unusedSimpArgs false
set_option linter.unusedVariables false
set_option maxRecDepth 8000
open Go.RowKit

/-- All cells are numbers. -/
def AllInt (xs : List Value) : Prop := ∀ (j : Nat) (u : Value), xs[j]? = some u → ∃ z : Int, u = Value.int .i64 z
theorem AllInt.at {xs : List Value} (h : AllInt xs) {j : Nat} (hj : j < xs.length) : ∃ z : Int, xs[j]? = some (Value.int .i64 z) := by
  obtain ⟨z, hz⟩ := h j _ (List.getElem?_eq_getElem hj)
  exact ⟨z, by rw [List.getElem?_eq_getElem hj, hz]⟩

theorem SlAt.form {w : World} {v : Value} {k size : Nat} {xs : List Value} (h : SlAt w v k size xs) : ∃ a c, v = .slice a k c := by
  rcases h.2 with ⟨rfl, rfl⟩ | ⟨b, off, cap, rfl, _⟩
  · exact ⟨_, _, rfl⟩
  · exact ⟨_, _, rfl⟩
theorem SlAt.some {w : World} {v : Value} {k size : Nat} {xs : List Value} (h : SlAt w v k size xs) (hk : 0 < k) : ∃ b off cap, v = .slice (some ⟨b, off, none⟩) k cap ∧ k ≤ cap ∧ cap ≤ maxLen ∧ b < w.heap.size ∧ ∀ j u, xs[j]? = some u → w.cell? ⟨b, off + j, none⟩ = some u := by
  rcases h.2 with ⟨_, rfl⟩ | h
  · omega
  · exact h

/-- The first m cells are numbered on from k. -/
def mkTo (k : Int) : Nat → List Value → List Value
  | 0, xs => xs
  | m + 1, xs => (mkTo k m xs).set m (.int .i64 (k + m))
theorem mkTo_length (k : Int) : ∀ (m : Nat) (xs : List Value), (mkTo k m xs).length = xs.length
  | 0, _ => rfl
  | m + 1, xs => by rw [mkTo, List.length_set, mkTo_length k m xs]
theorem mkTo_get (k : Int) : ∀ (m : Nat) (xs : List Value) (i : Nat), i < m → i < xs.length → (mkTo k m xs)[i]? = some (Value.int .i64 (k + i))
  | 0, _, _, h, _ => by omega
  | m + 1, xs, i, h, hl => by
    rw [mkTo]
    by_cases e : i = m
    · subst e
      rw [List.getElem?_set_self (by rw [mkTo_length]; exact hl)]
    · rw [List.getElem?_set_ne (by omega), mkTo_get k m xs i (by omega) hl]
/-- All cells are numbered on from k. -/
def Marked (k : Int) (xs : List Value) : Prop := ∀ i : Nat, i < xs.length → xs[i]? = some (Value.int .i64 (k + i))
theorem mkTo_all (k : Int) (xs : List Value) : Marked k (mkTo k xs.length xs) := fun i hi => by
  rw [mkTo_length] at hi
  exact mkTo_get k _ xs i hi hi

theorem grownBy_refl (w : World) (r : Option Nat) : w.grownBy w r := ⟨rfl, rfl, rfl, Nat.le_refl _, fun _ _ _ => rfl⟩
theorem grownBy_set3 {w w' : World} {g : Nat} (h : w.grownBy w' (some g)) (i : Nat) (u : Value) : w.grownBy (w'.setCell ⟨g, i, none⟩ u) (some g) :=
  ⟨h.os, h.tape, h.output, by simpa [World.setCell] using h.size, fun k hk hne => by rw [Below.heap_setCell _ _ _ _ (fun e => hne (by rw [e]))]; exact h.block k hk hne⟩
theorem ownsRow_set {w : World} {n : Nat} {e : TypeId} {size g k c : Nat} {xs : List Value} (h : w.ownsRow n e size (.slice (some ⟨g, 0, none⟩) k c) k xs) (i : Nat) (u : Value) : (w.setCell ⟨g, i, none⟩ u).ownsRow n e size (.slice (some ⟨g, 0, none⟩) k c) k (xs.set i u) := by
  have := Item.Holds.set (n := n) (w := w) (b := g) (i := i) (u := u) (x := .row e size (.slice (some ⟨g, 0, none⟩) k c) k xs) h
  simp only [updI, Value.ownBlock, if_true] at this
  exact this
theorem ownsRow_frozen {w : World} {n : Nat} {e : TypeId} {size g k c : Nat} {xs : List Value} (h : w.ownsRow n e size (.slice (some ⟨g, 0, none⟩) k c) k xs) (i : Nat) : w.frozen? ⟨g, i, none⟩ = false := by
  rcases h.2 with ⟨h2, _⟩ | ⟨g', cap, cur, h3, h4, h5, _⟩
  · cases h2
  · cases h3
    simp [World.frozen?, h5]
theorem ownsRow_cell {w : World} {n : Nat} {e : TypeId} {size g k c : Nat} {xs : List Value} (h : w.ownsRow n e size (.slice (some ⟨g, 0, none⟩) k c) k xs) {i : Nat} {u : Value} (hu : xs[i]? = some u) : w.cell? ⟨g, i, none⟩ = some u := by
  have := h.cells (g := g) rfl i u hu
  rwa [add_flat] at this

/-- What laying marks leaves. -/
def MarkOut (n : Nat) (e : TypeId) (v : Value) (k : Nat) (k0 : Int) (xs : List Value) (w : World) (e' : Ending) (w' : World) : Prop :=
  e' = .returned (.int .i64 (k0 + xs.length)) ∧ w.grownBy w' v.ownBlock ∧ w'.ownsRow n e 3 v k (mkTo k0 xs.length xs)

theorem own_mark {P : Program} {f : FuncId} {args : Array Value} {n : Nat} {B : World → Prop} {W : World} {L : List Item} {e : TypeId} {v : Value} {k : Nat} {k0 : Int} {xs : List Value} {K : Ending → World → Prop}
    (hO : Own n B W (.row e 3 v k xs :: L)) (h : W.ownsRow n e 3 v k xs → Calls P f args W (MarkOut n e v k k0 xs W)) (k' : ∀ w1, Own n B w1 (.row e 3 v k (mkTo k0 xs.length xs) :: L) → K (.returned (.int .i64 (k0 + xs.length))) w1) : Calls P f args W K :=
  (h hO.1.1).mono fun e' w' ⟨he, hg, hr⟩ => by subst he; exact k' w' (hO.regrown hg hr (Or.inl rfl))

/- The laws' samePitches: equal slices are found equal; elements of a row that is owned. -/
open Go.RowKit

/- The laws' own functions over slices of integers: equal ones are found equal; marks are laid and found. -/
open Go.RowKit

set_option maxHeartbeats 4000000 in
theorem eqIntS_same (va vb : Value) (k : Nat) (xs : List Value) (w : World) (ha : SlAt w va k 1 xs) (hb : SlAt w vb k 1 xs) (hi : AllInt xs) :
    Calls Tryd.prog 42 #[va, vb] w fun e w' => e = .returned (.bool true) ∧ Below w.heap.size w w' := by
  have hO := Own.start w
  have hF := True.intro
  by_cases hk : k = 0
  · subst hk
    obtain ⟨A, c, rfl⟩ := ha.form
    obtain ⟨A', c', rfl⟩ := hb.form
    clear ha hb hi
    go_enter Tryd.func42, Tryd.ntmps42
    go_wp2
    go_loop [5] (fun t => t = .int .i64 0) (fun _ => 0)
    case atStart => rfl
    case round =>
      obtain rfl := hrel
      go_wp2
      go_ret
      exact ⟨rfl, Below.refl _ _⟩
  · have hl := ha.1
    obtain ⟨b1, o1, c1, rfl, k1, m1, l1, x1⟩ := ha.some (by omega)
    obtain ⟨b2, o2, c2, rfl, k2, m2, l2, x2⟩ := hb.some (by omega)
    have X1 := hid x1
    have X2 := hid x2
    have HI := hid hi
    have HL := hid hl
    unfold maxLen at m1 m2
    clear ha hb x1 x2 hi hl hk
    go_enter Tryd.func42, Tryd.ntmps42
    go_wp2
    go_loopw [5] (fun t wr => ∃ j : Nat, j ≤ k ∧ t = .int .i64 j ∧ Own w.heap.size (Below w.heap.size w) wr []) (fun t _ => k - (intOf t).toNat)
    case atStart => exact ⟨0, by omega, rfl, hO⟩
    case round =>
      clear hO
      obtain ⟨j, hj, rfl, hO⟩ := hrel
      by_cases he : j = k
      · subst he
        go_wp2
        go_ret
        exact ⟨rfl, hO.base⟩
      · have hlt : j < k := by omega
        have hl := HL.out
        obtain ⟨z0, e0⟩ := HI.out.at (j := j) (by omega)
        have p0 : w.cell? ⟨b1, o1 + j, none⟩ = some (.int .i64 z0) := X1.out _ _ e0
        have r0 : w.cell? ⟨b2, o2 + j, none⟩ = some (.int .i64 z0) := X2.out _ _ e0
        clear he hl e0
        go_wp2
        apply own_code hO
        (repeat (first | (with_reducible exact hO) | (with_reducible apply Own.alloc) | (with_reducible apply Own.drew) | ((with_reducible apply Own.set_at); (focus (show _ ≤ _; omega)))))
        have hG := hF; clear hF; clear hO; intro hO
        (try simp only [World.size_alloc1, World.size_drew, Nat.reduceAdd] at hO); (try simp only [upd, updI, List.map_cons, List.map_nil, eq_self, if_true, if_false, reduceIte, Nat.add_eq_left, Nat.left_eq_add, Nat.reduceEqDiff, List.set_cons_zero, List.set_cons_succ, hG] at hO); clear hG
        refine region_own (X := fun _ => True) [] (by kernel_rfl) (hO) (trivial) (by first | exact XStab.true | exact XStab.rd | exact XStab.rdIf) ?_
        clear hO
        refine Sim.sP (i := 0) (d := some 17) (h := ?_)
        refine Sim.sP (i := 1) (d := some 18) (h := ?_)
        refine Sim.sP (i := 2) (d := some 19) (h := ?_)
        refine Sim.sO (i := 3) (d := some 20) (v := ?_) (hy := ?_) (h := ?_)
        rotate_left
        · first | refine Or.inl ⟨by rfl, fun w hO => ?_⟩ | (refine Or.inr ⟨by rfl, ?_⟩; with_reducible rfl)
          first | done | (have hF := hO; (try simp only [Own, Item.Holds, apartI, CellsAt, Nat.reduceAdd, Nat.zero_add, List.mem_cons, List.not_mem_nil, or_false, forall_eq_or_imp, forall_eq, ne_eq, false_imp_iff, implies_true, and_true] at hF); ((have d0 := (hO.base.cell (p := ⟨b1, o1 + j, none⟩) l1).trans p0; have g0 := (hO.base.cell (p := ⟨b2, o2 + j, none⟩) l2).trans r0)); refine Out.same ?_; go_simp; all_goals with_reducible rfl)
        refine Sim.sP (i := 4) (d := some 21) (h := ?_)
        refine Sim.sP (i := 5) (d := some 22) (h := ?_)
        refine Sim.sP (i := 6) (d := some 23) (h := ?_)
        refine Sim.sO (i := 7) (d := some 24) (v := ?_) (hy := ?_) (h := ?_)
        rotate_left
        · first | refine Or.inl ⟨by rfl, fun w hO => ?_⟩ | (refine Or.inr ⟨by rfl, ?_⟩; with_reducible rfl)
          first | done | (have hF := hO; (try simp only [Own, Item.Holds, apartI, CellsAt, Nat.reduceAdd, Nat.zero_add, List.mem_cons, List.not_mem_nil, or_false, forall_eq_or_imp, forall_eq, ne_eq, false_imp_iff, implies_true, and_true] at hF); ((have d0 := (hO.base.cell (p := ⟨b1, o1 + j, none⟩) l1).trans p0; have g0 := (hO.base.cell (p := ⟨b2, o2 + j, none⟩) l2).trans r0)); refine Out.same ?_; go_simp; all_goals with_reducible rfl)
        refine Sim.sP (i := 8) (d := some 25) (h := ?_)
        refine Sim.done (by kernel_rfl) (fun w1 hO hX => ?_) _
        (try simp only [World.size_alloc1, World.size_drew, Nat.reduceAdd] at hO); (try simp only [upd, updI, List.map_cons, List.map_nil, eq_self, if_true, if_false, reduceIte, Nat.add_eq_left, Nat.left_eq_add, Nat.reduceEqDiff, List.set_cons_zero, List.set_cons_succ] at hO)
        have hF := hO; (try simp only [Own, Item.Holds, apartI, CellsAt, Nat.reduceAdd, Nat.zero_add, List.mem_cons, List.not_mem_nil, or_false, forall_eq_or_imp, forall_eq, ne_eq, false_imp_iff, implies_true, and_true] at hF)
        go_wp2
        go_roundw
        case rel => exact ⟨j + 1, by omega, by go_num, hO⟩
        case measure => simp [intOf]; omega

set_option maxHeartbeats 4000000 in
theorem sameInts_same (va vb : Value) (k : Nat) (xs : List Value) (w : World) (ha : SlAt w va k 1 xs) (hb : SlAt w vb k 1 xs) (hi : AllInt xs) :
    Calls Tryd.prog 39 #[va, vb] w fun e w' => e = .returned (.bool true) ∧ Below w.heap.size w w' := by
  have hO := Own.start w
  have hF := True.intro
  by_cases hk : k = 0
  · subst hk
    obtain ⟨A, c, rfl⟩ := ha.form
    obtain ⟨A', c', rfl⟩ := hb.form
    clear ha hb hi
    go_enter Tryd.func39, Tryd.ntmps39
    go_wp2
    go_loop [5] (fun t => t = .int .i64 0) (fun _ => 0)
    case atStart => rfl
    case round =>
      obtain rfl := hrel
      go_wp2
      go_ret
      exact ⟨rfl, Below.refl _ _⟩
  · have hl := ha.1
    obtain ⟨b1, o1, c1, rfl, k1, m1, l1, x1⟩ := ha.some (by omega)
    obtain ⟨b2, o2, c2, rfl, k2, m2, l2, x2⟩ := hb.some (by omega)
    have X1 := hid x1
    have X2 := hid x2
    have HI := hid hi
    have HL := hid hl
    unfold maxLen at m1 m2
    clear ha hb x1 x2 hi hl hk
    go_enter Tryd.func39, Tryd.ntmps39
    go_wp2
    go_loopw [5] (fun t wr => ∃ j : Nat, j ≤ k ∧ t = .int .i64 j ∧ Own w.heap.size (Below w.heap.size w) wr []) (fun t _ => k - (intOf t).toNat)
    case atStart => exact ⟨0, by omega, rfl, hO⟩
    case round =>
      clear hO
      obtain ⟨j, hj, rfl, hO⟩ := hrel
      by_cases he : j = k
      · subst he
        go_wp2
        go_ret
        exact ⟨rfl, hO.base⟩
      · have hlt : j < k := by omega
        have hl := HL.out
        obtain ⟨z0, e0⟩ := HI.out.at (j := j) (by omega)
        have p0 : w.cell? ⟨b1, o1 + j, none⟩ = some (.int .i64 z0) := X1.out _ _ e0
        have r0 : w.cell? ⟨b2, o2 + j, none⟩ = some (.int .i64 z0) := X2.out _ _ e0
        clear he hl e0
        go_wp2
        apply own_code hO
        (repeat (first | (with_reducible exact hO) | (with_reducible apply Own.alloc) | (with_reducible apply Own.drew) | ((with_reducible apply Own.set_at); (focus (show _ ≤ _; omega)))))
        have hG := hF; clear hF; clear hO; intro hO
        (try simp only [World.size_alloc1, World.size_drew, Nat.reduceAdd] at hO); (try simp only [upd, updI, List.map_cons, List.map_nil, eq_self, if_true, if_false, reduceIte, Nat.add_eq_left, Nat.left_eq_add, Nat.reduceEqDiff, List.set_cons_zero, List.set_cons_succ, hG] at hO); clear hG
        refine region_own (X := fun _ => True) [] (by kernel_rfl) (hO) (trivial) (by first | exact XStab.true | exact XStab.rd | exact XStab.rdIf) ?_
        clear hO
        refine Sim.sP (i := 0) (d := some 17) (h := ?_)
        refine Sim.sP (i := 1) (d := some 18) (h := ?_)
        refine Sim.sP (i := 2) (d := some 19) (h := ?_)
        refine Sim.sO (i := 3) (d := some 20) (v := ?_) (hy := ?_) (h := ?_)
        rotate_left
        · first | refine Or.inl ⟨by rfl, fun w hO => ?_⟩ | (refine Or.inr ⟨by rfl, ?_⟩; with_reducible rfl)
          first | done | (have hF := hO; (try simp only [Own, Item.Holds, apartI, CellsAt, Nat.reduceAdd, Nat.zero_add, List.mem_cons, List.not_mem_nil, or_false, forall_eq_or_imp, forall_eq, ne_eq, false_imp_iff, implies_true, and_true] at hF); ((have d0 := (hO.base.cell (p := ⟨b1, o1 + j, none⟩) l1).trans p0; have g0 := (hO.base.cell (p := ⟨b2, o2 + j, none⟩) l2).trans r0)); refine Out.same ?_; go_simp; all_goals with_reducible rfl)
        refine Sim.sP (i := 4) (d := some 21) (h := ?_)
        refine Sim.sP (i := 5) (d := some 22) (h := ?_)
        refine Sim.sP (i := 6) (d := some 23) (h := ?_)
        refine Sim.sO (i := 7) (d := some 24) (v := ?_) (hy := ?_) (h := ?_)
        rotate_left
        · first | refine Or.inl ⟨by rfl, fun w hO => ?_⟩ | (refine Or.inr ⟨by rfl, ?_⟩; with_reducible rfl)
          first | done | (have hF := hO; (try simp only [Own, Item.Holds, apartI, CellsAt, Nat.reduceAdd, Nat.zero_add, List.mem_cons, List.not_mem_nil, or_false, forall_eq_or_imp, forall_eq, ne_eq, false_imp_iff, implies_true, and_true] at hF); ((have d0 := (hO.base.cell (p := ⟨b1, o1 + j, none⟩) l1).trans p0; have g0 := (hO.base.cell (p := ⟨b2, o2 + j, none⟩) l2).trans r0)); refine Out.same ?_; go_simp; all_goals with_reducible rfl)
        refine Sim.sP (i := 8) (d := some 25) (h := ?_)
        refine Sim.done (by kernel_rfl) (fun w1 hO hX => ?_) _
        (try simp only [World.size_alloc1, World.size_drew, Nat.reduceAdd] at hO); (try simp only [upd, updI, List.map_cons, List.map_nil, eq_self, if_true, if_false, reduceIte, Nat.add_eq_left, Nat.left_eq_add, Nat.reduceEqDiff, List.set_cons_zero, List.set_cons_succ] at hO)
        have hF := hO; (try simp only [Own, Item.Holds, apartI, CellsAt, Nat.reduceAdd, Nat.zero_add, List.mem_cons, List.not_mem_nil, or_false, forall_eq_or_imp, forall_eq, ne_eq, false_imp_iff, implies_true, and_true] at hF)
        go_wp2
        go_roundw
        case rel => exact ⟨j + 1, by omega, by go_num, hO⟩
        case measure => simp [intOf]; omega

/-- What laying marks into integers leaves. -/
def MarkOut1 (n : Nat) (e : TypeId) (v : Value) (k : Nat) (k0 : Int) (xs : List Value) (w : World) (e' : Ending) (w' : World) : Prop :=
  e' = .returned (.int .i64 (k0 + xs.length)) ∧ w.grownBy w' v.ownBlock ∧ w'.ownsRow n e 1 v k (mkTo k0 xs.length xs)

theorem ownsRow_set1 {w : World} {n : Nat} {e : TypeId} {size g k c : Nat} {xs : List Value} (h : w.ownsRow n e size (.slice (some ⟨g, 0, none⟩) k c) k xs) (i : Nat) (u : Value) : (w.setCell ⟨g, i, none⟩ u).ownsRow n e size (.slice (some ⟨g, 0, none⟩) k c) k (xs.set i u) := by
  have := Item.Holds.set (n := n) (w := w) (b := g) (i := i) (u := u) (x := .row e size (.slice (some ⟨g, 0, none⟩) k c) k xs) h
  simp only [updI, Value.ownBlock, if_true] at this
  exact this

set_option maxHeartbeats 4000000 in
theorem markIS_any (n : Nat) (e : TypeId) (v : Value) (k : Nat) (xs : List Value) (k0 : Int) (w : World) (ha : w.ownsRow n e 1 v k xs) (h0 : 0 ≤ k0) (h1 : k0 ≤ 10000000) (hk : k ≤ 1000000000) :
    Calls Tryd.prog 43 #[v, .int .i64 k0] w (MarkOut1 n e v k k0 xs w) := by
  by_cases hk0 : k = 0
  · subst hk0
    obtain ⟨A, c, rfl⟩ := (SlAt.of_row ha).form
    have hl : xs = [] := List.eq_nil_of_length_eq_zero (by simpa using ha.1)
    subst hl
    have HA := hid ha
    clear ha
    go_enter Tryd.func43, Tryd.ntmps43
    go_wp2
    go_loop [1, 5] (fun s t => s = .int .i64 k0 ∧ t = .int .i64 0) (fun _ _ => 0)
    case atStart => exact ⟨rfl, rfl⟩
    case round =>
      obtain ⟨rfl, rfl⟩ := hrel
      go_wp2
      go_ret
      exact ⟨ret_int (by simp), grownBy_refl _ _, HA.out⟩
  · have hl := ha.1
    obtain ⟨g, hv, hcap⟩ : ∃ g, (∃ c, v = .slice (some ⟨g, 0, none⟩) k c ∧ k ≤ c ∧ c ≤ maxLen) ∧ True := by
      rcases ha.2 with ⟨_, h2⟩ | ⟨g, c, cur, h3, _, _, h4, h5, _⟩
      · omega
      · exact ⟨g, ⟨c, h3, h4, h5⟩, trivial⟩
    obtain ⟨c, rfl, k1, m1⟩ := hv
    have HL := hid hl
    have HA := hid ha
    unfold maxLen at m1
    clear hl ha hcap
    go_enter Tryd.func43, Tryd.ntmps43
    go_wp2
    go_loopw [1, 5] (fun s t wr => ∃ j : Nat, j ≤ k ∧ t = .int .i64 j ∧ s = .int .i64 (k0 + j) ∧ w.grownBy wr (some g) ∧ wr.ownsRow n e 1 (.slice (some ⟨g, 0, none⟩) k c) k (mkTo k0 j xs)) (fun _ t _ => k - (intOf t).toNat)
    case atStart => exact ⟨0, by omega, rfl, by simp, grownBy_refl _ _, HA.out⟩
    case round =>
      obtain ⟨j, hj, rfl, rfl, hg, hr⟩ := hrel
      have HG := hid hg
      have HR := hid hr
      by_cases he : j = k
      · subst he
        clear hg hr
        go_wp2
        go_ret
        have e3 : j = xs.length := by rw [HL.out]; omega
        exact ⟨ret_int (by rw [← e3]), HG.out, by rw [← e3]; exact HR.out⟩
      · have hlt : j < k := by omega
        have hl := HL.out
        have hm := mkTo_length k0 j xs
        obtain ⟨u0, e0⟩ : ∃ u, (mkTo k0 j xs)[j]? = some u := ⟨_, List.getElem?_eq_getElem (by omega)⟩
        have c0 := ownsRow_cell hr e0
        have f0 := ownsRow_frozen hr j
        clear he hl hm e0 hg hr
        go_wp2
        go_roundw
        case rel =>
          refine ⟨j + 1, by omega, by go_num, ?_, grownBy_set3 HG.out _ _, ?_⟩
          · show Value.int .i64 _ = Value.int .i64 _
            congr 1; push_cast; omega
          · exact ownsRow_set1 HR.out j (.int .i64 (k0 + j))
        case measure => simp [intOf]; omega

theorem own_mark1 {P : Program} {f : FuncId} {args : Array Value} {n : Nat} {B : World → Prop} {W : World} {L : List Item} {e : TypeId} {v : Value} {k : Nat} {k0 : Int} {xs : List Value} {K : Ending → World → Prop}
    (hO : Own n B W (.row e 1 v k xs :: L)) (h : W.ownsRow n e 1 v k xs → Calls P f args W (MarkOut1 n e v k k0 xs W)) (k' : ∀ w1, Own n B w1 (.row e 1 v k (mkTo k0 xs.length xs) :: L) → K (.returned (.int .i64 (k0 + xs.length))) w1) : Calls P f args W K :=
  (h hO.1.1).mono fun e' w' ⟨he, hg, hr⟩ => by subst he; exact k' w' (hO.regrown hg hr (Or.inl rfl))

set_option maxHeartbeats 4000000 in
theorem heldIS_any (v : Value) (k : Nat) (xs : List Value) (k0 : Int) (w : World) (ha : SlAt w v k 1 xs) (hm : Marked k0 xs) (h0 : 0 ≤ k0) (h1 : k0 ≤ 10000000) (hk : k ≤ 1000000000) :
    Calls Tryd.prog 44 #[v, .int .i64 k0] w fun e w' => e = .returned (.int .i64 (k0 + xs.length)) ∧ w = w' := by
  by_cases hk0 : k = 0
  · subst hk0
    obtain ⟨A, c, rfl⟩ := ha.form
    have hl : xs = [] := List.eq_nil_of_length_eq_zero (by simpa using ha.1)
    subst hl
    clear ha hm
    go_enter Tryd.func44, Tryd.ntmps44
    go_wp2
    go_loop [1, 5] (fun s t => s = .int .i64 k0 ∧ t = .int .i64 0) (fun _ _ => 0)
    case atStart => exact ⟨rfl, rfl⟩
    case round =>
      obtain ⟨rfl, rfl⟩ := hrel
      go_wp2
      go_ret
      exact ⟨ret_int (by simp), rfl⟩
  · have hl := ha.1
    obtain ⟨b, off, c, rfl, k1, m1, l1, x1⟩ := ha.some (by omega)
    have X1 := hid x1
    have HM := hid hm
    have HL := hid hl
    unfold maxLen at m1
    clear ha x1 hm hl hk0
    go_enter Tryd.func44, Tryd.ntmps44
    go_wp2
    go_loop [1, 5] (fun s t => ∃ j : Nat, j ≤ k ∧ t = .int .i64 j ∧ s = .int .i64 (k0 + j)) (fun _ t => k - (intOf t).toNat)
    case atStart => exact ⟨0, by omega, rfl, by simp⟩
    case round =>
      obtain ⟨j, hj, rfl, rfl⟩ := hrel
      by_cases he : j = k
      · subst he
        have e3 : j = xs.length := by rw [HL.out]; omega
        go_wp2
        go_ret
        exact ⟨ret_int (by rw [← e3]), rfl⟩
      · have hlt : j < k := by omega
        have hl := HL.out
        have c0 : w.cell? ⟨b, off + j, none⟩ = some (.int .i64 (k0 + j)) := X1.out _ _ (HM.out j (by omega))
        clear he hl
        go_wp2
        go_round
        case rel =>
          refine ⟨j + 1, by omega, by go_num, ?_⟩
          show Value.int .i64 _ = Value.int .i64 _
          congr 1; push_cast; omega
        case measure => simp [intOf]; omega

theorem heldIS_mk (v : Value) (k : Nat) (xs : List Value) (k0 : Int) (w : World) (ha : SlAt w v k 1 (mkTo k0 xs.length xs)) (h0 : 0 ≤ k0) (h1 : k0 ≤ 10000000) (hk : k ≤ 1000000000) :
    Calls Tryd.prog 44 #[v, .int .i64 k0] w fun e w' => e = .returned (.int .i64 (k0 + xs.length)) ∧ w = w' := by
  have := heldIS_any v k _ k0 w ha (mkTo_all k0 xs) h0 h1 hk
  rwa [mkTo_length] at this
end Go.Proofs.YtmkhpafcgobfhaaDoor
