/- Chapter 13 in the program: chords that stand on the tones of a figure; RealizeFault. -/
import Derived.Test.YtfdglkiehkilnaaDoorWalks13G
import Derived.Test.YtfdglkiehkilnaaDoorWalks11S
import Derived.Test.YtfdglkiehkilnaaDoorWalks12I
import Derived.Test.YtfdglkiehkilnaaDoorCon13
import Derived.Test.YtfdglkiehkilnaaDoorRegionD
namespace Go.Proofs.YtfdglkiehkilnaaDoor
set_option linter.unusedSimpArgs false
set_option linter.unusedVariables false
set_option maxRecDepth 8000
open Go.RowKit Go.Joins

/-- A chord stands on the tones of a figure. -/
def sdB (l T : List Pt) : Bool := decide (0 < T.length) && (decide (l[0]? = T[0]?) && (T.all (hasB l) && l.all (hasB T)))

set_option maxRecDepth 20000 in
set_option maxHeartbeats 4000000 in
theorem sdI_any (va vt : Value) (l T : List Pt) (w : World) (hs : SlAt w va l.length 3 (pcC l)) (ht : SlAt w vt T.length 3 (pcC T)) (h1 : l.length ≤ 1048576) (h2 : T.length ≤ 1048576) (h0 : 0 < T.length → 0 < l.length) :
    Calls Tryd.prog 86 #[va, vt] w fun e w' => e = .returned (.bool (sdB l T)) ∧ Below w.heap.size w w' := by
  have hO := Own.start w
  have hF := True.intro
  have HS := hid (And.intro hs ht)
  obtain ⟨A1, c1, rfl, n1, hA1⟩ := hs.open
  obtain ⟨A2, c2, rfl, n2, hA2⟩ := ht.open
  obtain ⟨m, hm⟩ : ∃ m, l.length = m := ⟨_, rfl⟩
  obtain ⟨r, hr⟩ : ∃ r, T.length = r := ⟨_, rfl⟩
  have HM := hid (And.intro hm hr)
  rw [hm] at HS hA1 h1 h0 n1 ⊢
  rw [hr] at HS hA2 h2 h0 n2 ⊢
  clear hs ht
  by_cases hr0 : r = 0
  · subst hr0
    have HE := hid (show sdB l T = false by unfold sdB; rw [hr]; rfl)
    clear hm hr hA1 hA2 h0
    go_enter Tryd.func86, Tryd.ntmps86
    go_wp2_with fail
    apply own_code hO
    (repeat (first | (with_reducible exact hO) | (with_reducible apply Own.alloc) | (with_reducible apply Own.drew) | ((with_reducible apply Own.set_at); (focus (show _ ≤ _; omega)))))
    have hG := hF; clear hF; clear hO; intro hO
    (try simp only [World.size_alloc1, World.size_drew, Nat.reduceAdd] at hO); (try simp only [upd, updI, List.map_cons, List.map_nil, eq_self, if_true, if_false, reduceIte, Nat.add_eq_left, Nat.left_eq_add, Nat.reduceEqDiff, List.set_cons_zero, List.set_cons_succ, hG] at hO); clear hG
    refine region_own (X := fun _ => True) [] (by kernel_rfl) (hO) (trivial) (by first | exact XStab.true | exact XStab.rd | exact XStab.rdIf) ?_
    clear hO
    refine Sim.sP (i := 0) (d := some 5) (h := ?_)
    refine Sim.sO (i := 1) (d := some 6) (v := ?_) (hy := ?_) (h := ?_)
    rotate_left
    · first | refine Or.inl ⟨by rfl, fun w hO => ?_⟩ | (refine Or.inr ⟨by rfl, ?_⟩; with_reducible rfl)
      first | done | (have hF := hO; (try simp only [Own, Item.Holds, apartI, CellsAt, Nat.reduceAdd, Nat.zero_add, List.mem_cons, List.not_mem_nil, or_false, forall_eq_or_imp, forall_eq, ne_eq, false_imp_iff, implies_true, and_true] at hF); refine Out.same ?_; go_simp; all_goals with_reducible rfl)
    refine Sim.sP (i := 2) (d := some 7) (h := ?_)
    refine Sim.sP (i := 3) (d := some 8) (h := ?_)
    refine Sim.sP (i := 4) (d := some 9) (h := ?_)
    refine Sim.sP (i := 5) (d := some 10) (h := ?_)
    refine Sim.sP (i := 6) (d := some 11) (h := ?_)
    refine Sim.sP (i := 7) (d := some 12) (h := ?_)
    refine Sim.sP (i := 8) (d := some 13) (h := ?_)
    refine Sim.sP (i := 9) (d := some 14) (h := ?_)
    refine Sim.sP (i := 10) (d := some 15) (h := ?_)
    refine Sim.sP (i := 11) (d := some 16) (h := ?_)
    refine Sim.sP (i := 12) (d := some 17) (h := ?_)
    refine Sim.sP (i := 13) (d := some 18) (h := ?_)
    refine Sim.sP (i := 14) (d := some 19) (h := ?_)
    refine Sim.sP (i := 15) (d := some 20) (h := ?_)
    refine Sim.sP (i := 16) (d := some 21) (h := ?_)
    refine Sim.sP (i := 17) (d := some 4) (h := ?_)
    refine Sim.done (by kernel_rfl) (fun w1 hO hX => ?_) _
    (try simp only [World.size_alloc1, World.size_drew, Nat.reduceAdd] at hO); (try simp only [upd, updI, List.map_cons, List.map_nil, eq_self, if_true, if_false, reduceIte, Nat.add_eq_left, Nat.left_eq_add, Nat.reduceEqDiff, List.set_cons_zero, List.set_cons_succ] at hO)
    have hF := hO; (try simp only [Own, Item.Holds, apartI, CellsAt, Nat.reduceAdd, Nat.zero_add, List.mem_cons, List.not_mem_nil, or_false, forall_eq_or_imp, forall_eq, ne_eq, false_imp_iff, implies_true, and_true] at hF)
    go_wp2
    go_ret
    exact ⟨ret_bool HE.out.symm, Own.base (by first | exact hO | (repeat (first | (with_reducible exact hO) | (with_reducible apply Own.alloc) | (with_reducible apply Own.drew) | ((with_reducible apply Own.set_at); (focus (show _ ≤ _; omega))))))⟩
  · have r0 : 0 < r := by omega
    have r0' : 0 < (r : Int) := by omega
    have m0 := h0 r0
    have m0' : 0 < (m : Int) := by omega
    obtain ⟨b1, o1, rfl, _⟩ := hA1 m0
    obtain ⟨b2, o2, rfl, _⟩ := hA2 r0
    obtain ⟨y, hy⟩ : ∃ y, l[0]? = some y := ⟨_, List.getElem?_eq_getElem (by omega)⟩
    obtain ⟨x, hx⟩ : ∃ y, T[0]? = some y := ⟨_, List.getElem?_eq_getElem (by omega)⟩
    have HXY := hid (And.intro hy hx)
    obtain ⟨b, hb⟩ : ∃ b, (T.all (hasB l) && l.all (hasB T)) = b := ⟨_, rfl⟩
    have HB := hid hb
    have HST := hid (fun va vb W (ht : SlAt W va m 3 (pcC l)) (hl : SlAt W vb r 3 (pcC T)) => sameI_is hm hr h1 h2 hb va vb W ht hl)
    by_cases hyx : y = x
    · subst hyx
      have HE := hid (show sdB l T = b by unfold sdB; rw [hr, hy, hx, hb]; simp [r0])
      clear hm hr hA1 hA2 h0 hy hx hb hr0
      go_enter Tryd.func86, Tryd.ntmps86
      go_wp2_with fail
      apply own_code hO
      (repeat (first | (with_reducible exact hO) | (with_reducible apply Own.alloc) | (with_reducible apply Own.drew) | ((with_reducible apply Own.set_at); (focus (show _ ≤ _; omega)))))
      have hG := hF; clear hF; clear hO; intro hO
      (try simp only [World.size_alloc1, World.size_drew, Nat.reduceAdd] at hO); (try simp only [upd, updI, List.map_cons, List.map_nil, eq_self, if_true, if_false, reduceIte, Nat.add_eq_left, Nat.left_eq_add, Nat.reduceEqDiff, List.set_cons_zero, List.set_cons_succ, hG] at hO); clear hG
      refine region_own (X := fun _ => True) [] (by kernel_rfl) (hO) (trivial) (by first | exact XStab.true | exact XStab.rd | exact XStab.rdIf) ?_
      clear hO
      refine Sim.sP (i := 0) (d := some 5) (h := ?_)
      refine Sim.sO (i := 1) (d := some 6) (v := ?_) (hy := ?_) (h := ?_)
      rotate_left
      · first | refine Or.inl ⟨by rfl, fun w hO => ?_⟩ | (refine Or.inr ⟨by rfl, ?_⟩; with_reducible rfl)
        first | done | (have hF := hO; (try simp only [Own, Item.Holds, apartI, CellsAt, Nat.reduceAdd, Nat.zero_add, List.mem_cons, List.not_mem_nil, or_false, forall_eq_or_imp, forall_eq, ne_eq, false_imp_iff, implies_true, and_true] at hF); ((have ⟨d0, d1, d2⟩ := ptAt (HS.out.1.below hO.base) HXY.out.1; have ⟨d3, d4, d5⟩ := ptAt (HS.out.2.below hO.base) HXY.out.2; simp only [Nat.zero_mul, Nat.add_zero] at d0 d1 d2 d3 d4 d5)); refine Out.same ?_; go_simp; all_goals with_reducible rfl)
      refine Sim.sP (i := 2) (d := some 7) (h := ?_)
      refine Sim.sP (i := 3) (d := some 8) (h := ?_)
      refine Sim.sP (i := 4) (d := some 9) (h := ?_)
      refine Sim.sP (i := 5) (d := some 10) (h := ?_)
      refine Sim.sO (i := 6) (d := some 11) (v := ?_) (hy := ?_) (h := ?_)
      rotate_left
      · first | refine Or.inl ⟨by rfl, fun w hO => ?_⟩ | (refine Or.inr ⟨by rfl, ?_⟩; with_reducible rfl)
        first | done | (have hF := hO; (try simp only [Own, Item.Holds, apartI, CellsAt, Nat.reduceAdd, Nat.zero_add, List.mem_cons, List.not_mem_nil, or_false, forall_eq_or_imp, forall_eq, ne_eq, false_imp_iff, implies_true, and_true] at hF); ((have ⟨d0, d1, d2⟩ := ptAt (HS.out.1.below hO.base) HXY.out.1; have ⟨d3, d4, d5⟩ := ptAt (HS.out.2.below hO.base) HXY.out.2; simp only [Nat.zero_mul, Nat.add_zero] at d0 d1 d2 d3 d4 d5)); refine Out.same ?_; go_simp; all_goals with_reducible rfl)
      refine Sim.sP (i := 7) (d := some 12) (h := ?_)
      refine Sim.sP (i := 8) (d := some 13) (h := ?_)
      refine Sim.sO (i := 9) (d := some 14) (v := ?_) (hy := ?_) (h := ?_)
      rotate_left
      · first | refine Or.inl ⟨by rfl, fun w hO => ?_⟩ | (refine Or.inr ⟨by rfl, ?_⟩; with_reducible rfl)
        first | done | (have hF := hO; (try simp only [Own, Item.Holds, apartI, CellsAt, Nat.reduceAdd, Nat.zero_add, List.mem_cons, List.not_mem_nil, or_false, forall_eq_or_imp, forall_eq, ne_eq, false_imp_iff, implies_true, and_true] at hF); ((have ⟨d0, d1, d2⟩ := ptAt (HS.out.1.below hO.base) HXY.out.1; have ⟨d3, d4, d5⟩ := ptAt (HS.out.2.below hO.base) HXY.out.2; simp only [Nat.zero_mul, Nat.add_zero] at d0 d1 d2 d3 d4 d5)); refine Out.same ?_; go_simp; all_goals with_reducible rfl)
      refine Sim.sP (i := 10) (d := some 15) (h := ?_)
      refine Sim.sP (i := 11) (d := some 16) (h := ?_)
      refine Sim.sP (i := 12) (d := some 17) (h := ?_)
      refine Sim.sP (i := 13) (d := some 18) (h := ?_)
      refine Sim.sP (i := 14) (d := some 19) (h := ?_)
      refine Sim.sO (i := 15) (d := some 20) (v := ?_) (hy := ?_) (h := ?_)
      rotate_left
      · first | refine Or.inl ⟨by rfl, fun w hO => ?_⟩ | (refine Or.inr ⟨by rfl, ?_⟩; with_reducible rfl)
        first | done | (refine Out.call (f := 112) (args := ?_) ?_ ?_; rotate_left; (focus (go_simp; all_goals with_reducible rfl)); exact HST.out _ _ _ (HS.out.1.below hO.base) (HS.out.2.below hO.base))
      refine Sim.sP (i := 16) (d := some 21) (h := ?_)
      refine Sim.sP (i := 17) (d := some 4) (h := ?_)
      refine Sim.done (by kernel_rfl) (fun w1 hO hX => ?_) _
      (try simp only [World.size_alloc1, World.size_drew, Nat.reduceAdd] at hO); (try simp only [upd, updI, List.map_cons, List.map_nil, eq_self, if_true, if_false, reduceIte, Nat.add_eq_left, Nat.left_eq_add, Nat.reduceEqDiff, List.set_cons_zero, List.set_cons_succ] at hO)
      have hF := hO; (try simp only [Own, Item.Holds, apartI, CellsAt, Nat.reduceAdd, Nat.zero_add, List.mem_cons, List.not_mem_nil, or_false, forall_eq_or_imp, forall_eq, ne_eq, false_imp_iff, implies_true, and_true] at hF)
      go_wp2
      go_ret
      exact ⟨ret_bool HE.out.symm, Own.base (by first | exact hO | (repeat (first | (with_reducible exact hO) | (with_reducible apply Own.alloc) | (with_reducible apply Own.drew) | ((with_reducible apply Own.set_at); (focus (show _ ≤ _; omega))))))⟩
    · have HE := hid (show sdB l T = false by unfold sdB; rw [hy, hx, decide_eq_false (p := some y = some x) (fun h => hyx (Option.some.inj h))]; simp)
      have hne : ∀ {α : Type} (A B : α), (if y.s = x.s then (if y.a = x.a then (if y.o = x.o then A else B) else B) else B) = B := fun A B => by
        split
        · rename_i e1
          split
          · rename_i e2
            split
            · rename_i e3
              exact absurd (by cases y; cases x; simp at e1 e2 e3; rw [e1, e2, e3]) hyx
            · rfl
          · rfl
        · rfl
      clear hm hr hA1 hA2 h0 hy hx hb hr0 hyx
      go_enter Tryd.func86, Tryd.ntmps86
      go_wp2_with fail
      apply own_code hO
      (repeat (first | (with_reducible exact hO) | (with_reducible apply Own.alloc) | (with_reducible apply Own.drew) | ((with_reducible apply Own.set_at); (focus (show _ ≤ _; omega)))))
      have hG := hF; clear hF; clear hO; intro hO
      (try simp only [World.size_alloc1, World.size_drew, Nat.reduceAdd] at hO); (try simp only [upd, updI, List.map_cons, List.map_nil, eq_self, if_true, if_false, reduceIte, Nat.add_eq_left, Nat.left_eq_add, Nat.reduceEqDiff, List.set_cons_zero, List.set_cons_succ, hG] at hO); clear hG
      refine region_own (X := fun _ => True) [] (by kernel_rfl) (hO) (trivial) (by first | exact XStab.true | exact XStab.rd | exact XStab.rdIf) ?_
      clear hO
      refine Sim.sP (i := 0) (d := some 5) (h := ?_)
      refine Sim.sO (i := 1) (d := some 6) (v := ?_) (hy := ?_) (h := ?_)
      rotate_left
      · first | refine Or.inl ⟨by rfl, fun w hO => ?_⟩ | (refine Or.inr ⟨by rfl, ?_⟩; with_reducible rfl)
        first | done | (have hF := hO; (try simp only [Own, Item.Holds, apartI, CellsAt, Nat.reduceAdd, Nat.zero_add, List.mem_cons, List.not_mem_nil, or_false, forall_eq_or_imp, forall_eq, ne_eq, false_imp_iff, implies_true, and_true] at hF); ((have ⟨d0, d1, d2⟩ := ptAt (HS.out.1.below hO.base) HXY.out.1; have ⟨d3, d4, d5⟩ := ptAt (HS.out.2.below hO.base) HXY.out.2; simp only [Nat.zero_mul, Nat.add_zero] at d0 d1 d2 d3 d4 d5)); refine Out.same ?_; go_simp; all_goals with_reducible rfl)
      refine Sim.sP (i := 2) (d := some 7) (h := ?_)
      refine Sim.sP (i := 3) (d := some 8) (h := ?_)
      refine Sim.sP (i := 4) (d := some 9) (h := ?_)
      refine Sim.sP (i := 5) (d := some 10) (h := ?_)
      refine Sim.sO (i := 6) (d := some 11) (v := ?_) (hy := ?_) (h := ?_)
      rotate_left
      · first | refine Or.inl ⟨by rfl, fun w hO => ?_⟩ | (refine Or.inr ⟨by rfl, ?_⟩; with_reducible rfl)
        first | done | (have hF := hO; (try simp only [Own, Item.Holds, apartI, CellsAt, Nat.reduceAdd, Nat.zero_add, List.mem_cons, List.not_mem_nil, or_false, forall_eq_or_imp, forall_eq, ne_eq, false_imp_iff, implies_true, and_true] at hF); ((have ⟨d0, d1, d2⟩ := ptAt (HS.out.1.below hO.base) HXY.out.1; have ⟨d3, d4, d5⟩ := ptAt (HS.out.2.below hO.base) HXY.out.2; simp only [Nat.zero_mul, Nat.add_zero] at d0 d1 d2 d3 d4 d5)); refine Out.same ?_; go_simp; all_goals with_reducible rfl)
      refine Sim.sP (i := 7) (d := some 12) (h := ?_)
      refine Sim.sP (i := 8) (d := some 13) (h := ?_)
      refine Sim.sO (i := 9) (d := some 14) (v := ?_) (hy := ?_) (h := ?_)
      rotate_left
      · first | refine Or.inl ⟨by rfl, fun w hO => ?_⟩ | (refine Or.inr ⟨by rfl, ?_⟩; with_reducible rfl)
        first | done | (have hF := hO; (try simp only [Own, Item.Holds, apartI, CellsAt, Nat.reduceAdd, Nat.zero_add, List.mem_cons, List.not_mem_nil, or_false, forall_eq_or_imp, forall_eq, ne_eq, false_imp_iff, implies_true, and_true] at hF); ((have ⟨d0, d1, d2⟩ := ptAt (HS.out.1.below hO.base) HXY.out.1; have ⟨d3, d4, d5⟩ := ptAt (HS.out.2.below hO.base) HXY.out.2; simp only [Nat.zero_mul, Nat.add_zero] at d0 d1 d2 d3 d4 d5)); refine Out.same ?_; go_simp; all_goals with_reducible rfl)
      refine Sim.sP (i := 10) (d := some 15) (h := ?_)
      refine Sim.sP (i := 11) (d := some 16) (h := ?_)
      refine Sim.sP (i := 12) (d := some 17) (h := ?_)
      refine Sim.sP (i := 13) (d := some 18) (h := ?_)
      refine Sim.sP (i := 14) (d := some 19) (h := ?_)
      refine Sim.sP (i := 15) (d := some 20) (h := ?_)
      refine Sim.sP (i := 16) (d := some 21) (h := ?_)
      refine Sim.sP (i := 17) (d := some 4) (h := ?_)
      refine Sim.done (by kernel_rfl) (fun w1 hO hX => ?_) _
      (try simp only [World.size_alloc1, World.size_drew, Nat.reduceAdd] at hO); (try simp only [upd, updI, List.map_cons, List.map_nil, eq_self, if_true, if_false, reduceIte, Nat.add_eq_left, Nat.left_eq_add, Nat.reduceEqDiff, List.set_cons_zero, List.set_cons_succ] at hO)
      have hF := hO; (try simp only [Own, Item.Holds, apartI, CellsAt, Nat.reduceAdd, Nat.zero_add, List.mem_cons, List.not_mem_nil, or_false, forall_eq_or_imp, forall_eq, ne_eq, false_imp_iff, implies_true, and_true] at hF)
      go_wp2
      go_ret
      exact ⟨ret_bool HE.out.symm, Own.base (by first | exact hO | (repeat (first | (with_reducible exact hO) | (with_reducible apply Own.alloc) | (with_reducible apply Own.drew) | ((with_reducible apply Own.set_at); (focus (show _ ≤ _; omega))))))⟩
theorem sdI_is {l T : List Pt} {m r : Nat} {b : Bool} (hm : l.length = m) (hr : T.length = r) (h1 : m ≤ 1048576) (h2 : r ≤ 1048576) (h0 : 0 < r → 0 < m) (hb : sdB l T = b) (va vt : Value) (W : World) (hs : SlAt W va m 3 (pcC l)) (ht : SlAt W vt r 3 (pcC T)) :
    Calls Tryd.prog 86 #[va, vt] W fun e w' => e = .returned (.bool b) ∧ Below W.heap.size W w' := by
  subst hm hr hb; exact sdI_any va vt l T W hs ht h1 h2 h0
end Go.Proofs.YtfdglkiehkilnaaDoor
