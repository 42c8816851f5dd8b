/- Lists of notes are compared: slices.Equal. -/
import Derived.Test.YtcgcnkddgihkpaaDoorWalksNS
import Derived.Test.YtcgcnkddgihkpaaDoorWalksNE
import Derived.Test.YtcgcnkddgihkpaaDoorRegionD
namespace Go.Proofs.YtcgcnkddgihkpaaDoor
set_option linter.unusedSimpArgs false
set_option linter.unusedVariables false
set_option maxRecDepth 8000
open Go.RowKit

theorem ne16 {x z : Nt} (h : ¬ x = z) {α : Type} (A B : α) : (if x.r = z.r then (if x.s = z.s then (if x.a = z.a then (if x.o = z.o then (if x.t = z.t then (if x.y = z.y then A else B) else B) else B) else B) else B) else B) = B := by
  split
  · rename_i e1
    split
    · rename_i e2
      split
      · rename_i e3
        split
        · rename_i e4
          split
          · rename_i e5
            split
            · rename_i e6
              refine absurd ?_ h
              cases x; cases z
              simp only at e1 e2 e3 e4 e5 e6
              rw [e1, e2, e3, e4, e5, e6]
            · rfl
          · rfl
        · rfl
      · rfl
    · rfl
  · rfl

set_option maxRecDepth 20000 in
set_option maxHeartbeats 4000000 in
theorem eqI16 (va vb : Value) (a b : List Nt) (n m : Nat) (r : Bool) (w : World) (hv : a.length = n) (hs : b.length = m) (h1 : SlAt w va n 6 (vcC a)) (h2 : SlAt w vb m 6 (vcC b)) (hr : r = true ↔ a = b) :
    Calls Tryd.prog 66 #[va, vb] w fun e w' => e = .returned (.bool r) ∧ Below w.heap.size w w' := by
  have hO := Own.start w
  have hF := True.intro
  obtain ⟨A, c, rfl, nb, hA⟩ := h1.open
  obtain ⟨A', c', rfl, mb, hA'⟩ := h2.open
  have H1 := hid h1
  have H2 := hid h2
  have HN := hid (And.intro hv hs)
  have HR := hid hr
  by_cases hnm : n = m
  · subst hnm
    clear h1 h2 hv hs hr
    go_enter Tryd.func66, Tryd.ntmps66
    go_wp2_with fail
    go_loopw [13] (fun t wr => ∃ j : Nat, j ≤ n ∧ t = .int .i64 j ∧ Hid (∀ i : Nat, i < j → a[i]? = b[i]?) ∧ Own w.heap.size (Below w.heap.size w) wr []) (fun t _ => n - (intOf t).toNat)
    case atStart => exact ⟨0, by omega, rfl, fun i hi => by omega, hO⟩
    case round =>
      clear hO hF
      obtain ⟨j, hj, rfl, he, hO⟩ := hrel
      have hF := True.intro
      by_cases hjn : j = n
      · subst hjn
        have HE := hid (show r = true from HR.out.2 (List.ext_getElem? fun i => by
          by_cases hi : i < j
          · exact he.out i hi
          · rw [List.getElem?_eq_none (by have := HN.out.1; omega), List.getElem?_eq_none (by have := HN.out.2; omega)]))
        obtain rfl := HE.out
        clear he
        go_wp2_with fail
        go_ret
        exact ⟨rfl, hO.base⟩
      · have hlt : j < n := by omega
        have hlt2 : (j : Int) < n := by omega
        have hj0 : (0 : Int) ≤ (j : Int) := by omega
        obtain ⟨q, o, rfl, hc1, hc2, hq⟩ := hA (by omega)
        obtain ⟨q', o', rfl, hc3, hc4, hq'⟩ := hA' (by omega)
        obtain ⟨x, hx⟩ : ∃ x, a[j]? = some x := ⟨_, List.getElem?_eq_getElem (by have := HN.out.1; omega)⟩
        obtain ⟨z, hz⟩ : ∃ x, b[j]? = some x := ⟨_, List.getElem?_eq_getElem (by have := HN.out.2; omega)⟩
        have HX := hid hx
        have HZ := hid hz
        by_cases hxz : x = z
        · subst hxz
          have HUP := hid (fun (i : Nat) (hi : i < j + 1) => show a[i]? = b[i]? by
            rcases (show i < j ∨ i = j by omega) with h | rfl
            · exact he.out i h
            · rw [HX.out, HZ.out])
          clear hx hz hjn he
          go_wp2_with fail
          apply own_code hO
          (repeat (first | (with_reducible exact hO) | (with_reducible apply Own.alloc) | (with_reducible apply Own.drew) | ((with_reducible apply Own.set_at); (focus (show _ ≤ _; omega)))))
          have hG := hF; clear hF; clear hO; intro hO
          (try simp only [World.size_alloc1, World.size_drew, Nat.reduceAdd] at hO); (try simp only [upd, updI, List.map_cons, List.map_nil, eq_self, if_true, if_false, reduceIte, Nat.add_eq_left, Nat.left_eq_add, Nat.reduceEqDiff, List.set_cons_zero, List.set_cons_succ, hG] at hO); clear hG
          refine region_own (X := fun _ => True) [] (by kernel_rfl) (hO) (trivial) (by first | exact XStab.true | exact XStab.rd | exact XStab.rdIf) ?_
          clear hO
          refine Sim.sP (i := 0) (d := some 16) (h := ?_)
          refine Sim.sP (i := 1) (d := some 17) (h := ?_)
          refine Sim.sP (i := 2) (d := some 18) (h := ?_)
          refine Sim.sO (i := 3) (d := some 19) (v := ?_) (hy := ?_) (h := ?_)
          rotate_left
          · first | refine Or.inl ⟨by rfl, fun w hO => ?_⟩ | (refine Or.inr ⟨by rfl, ?_⟩; with_reducible rfl)
            first | done | (have hF := hO; (try simp only [Own, Item.Holds, apartI, CellsAt, Nat.reduceAdd, Nat.zero_add, List.mem_cons, List.not_mem_nil, or_false, forall_eq_or_imp, forall_eq, ne_eq, false_imp_iff, implies_true, and_true] at hF); ((have ⟨d0, d1, d2, d3, d4, d5⟩ := noteAt (H1.out.below hO.base) HX.out; have ⟨g0, g1, g2, g3, g4, g5⟩ := noteAt (H2.out.below hO.base) HZ.out)); refine Out.same ?_; go_simp; all_goals with_reducible rfl)
          refine Sim.sP (i := 4) (d := some 20) (h := ?_)
          refine Sim.sP (i := 5) (d := some 21) (h := ?_)
          refine Sim.sP (i := 6) (d := some 22) (h := ?_)
          refine Sim.sO (i := 7) (d := some 23) (v := ?_) (hy := ?_) (h := ?_)
          rotate_left
          · first | refine Or.inl ⟨by rfl, fun w hO => ?_⟩ | (refine Or.inr ⟨by rfl, ?_⟩; with_reducible rfl)
            first | done | (have hF := hO; (try simp only [Own, Item.Holds, apartI, CellsAt, Nat.reduceAdd, Nat.zero_add, List.mem_cons, List.not_mem_nil, or_false, forall_eq_or_imp, forall_eq, ne_eq, false_imp_iff, implies_true, and_true] at hF); ((have ⟨d0, d1, d2, d3, d4, d5⟩ := noteAt (H1.out.below hO.base) HX.out; have ⟨g0, g1, g2, g3, g4, g5⟩ := noteAt (H2.out.below hO.base) HZ.out)); refine Out.same ?_; go_simp; all_goals with_reducible rfl)
          refine Sim.sP (i := 8) (d := some 24) (h := ?_)
          refine Sim.done (by kernel_rfl) (fun w1 hO hX => ?_) _
          (try simp only [World.size_alloc1, World.size_drew, Nat.reduceAdd] at hO); (try simp only [upd, updI, List.map_cons, List.map_nil, eq_self, if_true, if_false, reduceIte, Nat.add_eq_left, Nat.left_eq_add, Nat.reduceEqDiff, List.set_cons_zero, List.set_cons_succ] at hO)
          have hF := hO; (try simp only [Own, Item.Holds, apartI, CellsAt, Nat.reduceAdd, Nat.zero_add, List.mem_cons, List.not_mem_nil, or_false, forall_eq_or_imp, forall_eq, ne_eq, false_imp_iff, implies_true, and_true] at hF)
          go_wp2_with fail
          go_roundw
          case rel => exact ⟨j + 1, by omega, by go_num, HUP.out, hO⟩
          case measure => simp [intOf]; omega
        · have HE := hid (show r = false by
            rw [← Bool.not_eq_true]
            intro h
            have := HR.out.1 h
            rw [this, HZ.out] at hx
            exact hxz (Option.some.inj hx).symm)
          obtain rfl := HE.out
          have hne : ∀ {α : Type} (A B : α), (if x.r = z.r then (if x.s = z.s then (if x.a = z.a then (if x.o = z.o then (if x.t = z.t then (if x.y = z.y then A else B) else B) else B) else B) else B) else B) = B := ne16 hxz
          clear hx hz hjn he hxz
          go_wp2_with fail
          apply own_code hO
          (repeat (first | (with_reducible exact hO) | (with_reducible apply Own.alloc) | (with_reducible apply Own.drew) | ((with_reducible apply Own.set_at); (focus (show _ ≤ _; omega)))))
          have hG := hF; clear hF; clear hO; intro hO
          (try simp only [World.size_alloc1, World.size_drew, Nat.reduceAdd] at hO); (try simp only [upd, updI, List.map_cons, List.map_nil, eq_self, if_true, if_false, reduceIte, Nat.add_eq_left, Nat.left_eq_add, Nat.reduceEqDiff, List.set_cons_zero, List.set_cons_succ, hG] at hO); clear hG
          refine region_own (X := fun _ => True) [] (by kernel_rfl) (hO) (trivial) (by first | exact XStab.true | exact XStab.rd | exact XStab.rdIf) ?_
          clear hO
          refine Sim.sP (i := 0) (d := some 16) (h := ?_)
          refine Sim.sP (i := 1) (d := some 17) (h := ?_)
          refine Sim.sP (i := 2) (d := some 18) (h := ?_)
          refine Sim.sO (i := 3) (d := some 19) (v := ?_) (hy := ?_) (h := ?_)
          rotate_left
          · first | refine Or.inl ⟨by rfl, fun w hO => ?_⟩ | (refine Or.inr ⟨by rfl, ?_⟩; with_reducible rfl)
            first | done | (have hF := hO; (try simp only [Own, Item.Holds, apartI, CellsAt, Nat.reduceAdd, Nat.zero_add, List.mem_cons, List.not_mem_nil, or_false, forall_eq_or_imp, forall_eq, ne_eq, false_imp_iff, implies_true, and_true] at hF); ((have ⟨d0, d1, d2, d3, d4, d5⟩ := noteAt (H1.out.below hO.base) HX.out; have ⟨g0, g1, g2, g3, g4, g5⟩ := noteAt (H2.out.below hO.base) HZ.out)); refine Out.same ?_; go_simp; all_goals with_reducible rfl)
          refine Sim.sP (i := 4) (d := some 20) (h := ?_)
          refine Sim.sP (i := 5) (d := some 21) (h := ?_)
          refine Sim.sP (i := 6) (d := some 22) (h := ?_)
          refine Sim.sO (i := 7) (d := some 23) (v := ?_) (hy := ?_) (h := ?_)
          rotate_left
          · first | refine Or.inl ⟨by rfl, fun w hO => ?_⟩ | (refine Or.inr ⟨by rfl, ?_⟩; with_reducible rfl)
            first | done | (have hF := hO; (try simp only [Own, Item.Holds, apartI, CellsAt, Nat.reduceAdd, Nat.zero_add, List.mem_cons, List.not_mem_nil, or_false, forall_eq_or_imp, forall_eq, ne_eq, false_imp_iff, implies_true, and_true] at hF); ((have ⟨d0, d1, d2, d3, d4, d5⟩ := noteAt (H1.out.below hO.base) HX.out; have ⟨g0, g1, g2, g3, g4, g5⟩ := noteAt (H2.out.below hO.base) HZ.out)); refine Out.same ?_; go_simp; all_goals with_reducible rfl)
          refine Sim.sP (i := 8) (d := some 24) (h := ?_)
          refine Sim.done (by kernel_rfl) (fun w1 hO hX => ?_) _
          (try simp only [World.size_alloc1, World.size_drew, Nat.reduceAdd] at hO); (try simp only [upd, updI, List.map_cons, List.map_nil, eq_self, if_true, if_false, reduceIte, Nat.add_eq_left, Nat.left_eq_add, Nat.reduceEqDiff, List.set_cons_zero, List.set_cons_succ] at hO)
          have hF := hO; (try simp only [Own, Item.Holds, apartI, CellsAt, Nat.reduceAdd, Nat.zero_add, List.mem_cons, List.not_mem_nil, or_false, forall_eq_or_imp, forall_eq, ne_eq, false_imp_iff, implies_true, and_true] at hF)
          go_wp2_with fail
          go_ret
          exact ⟨rfl, hO.base⟩
  · have HE := hid (show r = false by
      rw [← Bool.not_eq_true]
      intro h
      have := HR.out.1 h
      have g := HN.out
      rw [this] at g
      omega)
    obtain rfl := HE.out
    have h3 : ((n : Int) == (m : Int)) = false := by simp; omega
    have h4 : ¬ (n : Int) = (m : Int) := by omega
    have h5 : ((n : Int) != (m : Int)) = true := by simp; omega
    clear h1 h2 hv hs hr hnm
    go_enter Tryd.func66, Tryd.ntmps66
    go_wp2_with fail
    go_ret
    exact ⟨rfl, hO.base⟩
end Go.Proofs.YtcgcnkddgihkpaaDoor
