/- Chapter 16 in the program: intervalTo; slices.Equal of notes; IsCanon. -/
import Derived.Test.YtmkhpafcgobfhaaDoorPure16P
import Derived.Test.YtmkhpafcgobfhaaDoorWalks16C
import Derived.Test.YtmkhpafcgobfhaaDoorWalksEqN
import Derived.Test.YtmkhpafcgobfhaaDoorWalks2I
import Derived.Test.YtmkhpafcgobfhaaDoorSlTake
import Derived.Test.YtmkhpafcgobfhaaDoorRegionD
namespace Go.Proofs.YtmkhpafcgobfhaaDoor
set_option linter.unusedSimpArgs false
set_option linter.unusedVariables false
set_option maxRecDepth 8000
open Go.RowKit

theorem ofI16 {x z : Nt} {b : Bool} {st ha : Int} (h : (if ofB x.s x.a x.o z.s z.a z.o = true then (true, dpZ x.s x.o z.s z.o, keyZ z.s z.a z.o - keyZ x.s x.a x.o) else (false, 0, 0)) = (b, st, ha)) (W : World) (ht : TabH W) :
    Calls Tryd.prog 98 #[.agg #[.int .i64 x.s, .int .i64 x.a, .int .i64 x.o], .agg #[.int .i64 z.s, .int .i64 z.a, .int .i64 z.o]] W fun e w' => e = .returned (.tuple #[.agg #[.int .i64 st, .int .i64 ha], .bool b]) ∧ Below W.heap.size W w' := by
  cases hv : ofB x.s x.a x.o z.s z.a z.o
  · rw [hv, if_neg (by decide)] at h
    cases h
    exact ofI_no _ _ _ _ _ _ W ht hv
  · rw [hv, if_pos rfl] at h
    cases h
    exact ofI_yes _ _ _ _ _ _ W ht hv

set_option maxRecDepth 20000 in
set_option maxHeartbeats 4000000 in
theorem itI_any (va vb : Value) (v s : List Nt) (n : Nat) (b : Bool) (st ha : Int) (w : World) (hT : TabH w) (hv : v.length = n) (hs : s.length = n) (h1 : SlAt w va n 6 (vcC v)) (h2 : SlAt w vb n 6 (vcC s)) (hit : itP v s = (b, st, ha)) :
    Calls Tryd.prog 66 #[va, vb] w fun e w' => e = .returned (.tuple #[.agg #[.int .i64 st, .int .i64 ha], .bool b]) ∧ Below w.heap.size w w' := by
  have hO := Own.start w
  have hF := True.intro
  obtain ⟨A, c, rfl, nb, hA⟩ := h1.open
  obtain ⟨A', c', rfl, _, hA'⟩ := h2.open
  have H1 := hid h1
  have H2 := hid h2
  have HN := hid (And.intro hv hs)
  have HIT := hid hit
  have HT := hid hT
  clear h1 h2 hv hs hit hT
  go_enter Tryd.func66, Tryd.ntmps66
  go_wp2_with fail
  have hO2 := hO.alloc (t := 31) (vs := [.int .i64 0, .int .i64 0])
  clear hO
  go_loopw [10] (fun t wr => ∃ j : Nat, j ≤ n ∧ t = .int .i64 j ∧ Hid (∀ (i : Nat) (x : Nt), i < j → v[i]? = some x → x.r = true) ∧ Own w.heap.size (Below w.heap.size w) wr [.blk w.heap.size [.int .i64 0, .int .i64 0]]) (fun t _ => n - (intOf t).toNat)
  case atStart => exact ⟨0, by omega, rfl, fun i x hi => by omega, hO2⟩
  case round =>
    clear hO2 hF
    obtain ⟨j, hj, rfl, hr, hO⟩ := hrel
    have hF := True.intro
    have hF := hO; (try simp only [Own, Item.Holds, apartI, CellsAt, Nat.reduceAdd, Nat.zero_add, List.mem_cons, List.not_mem_nil, or_false, forall_eq_or_imp, forall_eq, ne_eq, false_imp_iff, implies_true, and_true] at hF)
    by_cases he : j = n
    · subst he
      have HE := hid (show (b, st, ha) = (true, 0, 0) by
        rw [← HIT.out]
        exact it_none (by rw [HN.out.1, HN.out.2]) fun i x hx => hr.out i x (by have := (List.getElem?_eq_some_iff.1 hx).1; have := HN.out.1; omega) hx)
      have e := HE.out
      cases e
      clear hr
      go_wp2_with fail
      apply own_end hO
      (repeat (first | (with_reducible exact hO) | (with_reducible apply Own.alloc) | (with_reducible apply Own.drew) | ((with_reducible apply Own.set_at); (focus (show _ ≤ _; omega)))))
      have hG := hF; clear hF; clear hO; intro hO
      refine own_ret (v := .tuple #[.agg #[.int .i64 0, .int .i64 0], .bool true]) hO ?_ rfl (fun hO => ⟨rfl, hO.base⟩)
      clear hO; intro w1 hO
      (try simp only [World.size_alloc1, World.size_drew, Nat.reduceAdd] at hO); (try simp only [upd, updI, List.map_cons, List.map_nil, eq_self, if_true, if_false, reduceIte, Nat.add_eq_left, Nat.left_eq_add, Nat.reduceEqDiff, List.set_cons_zero, List.set_cons_succ, hG] at hO); clear hG
      have hF := hO; (try simp only [Own, Item.Holds, apartI, CellsAt, Nat.reduceAdd, Nat.zero_add, List.mem_cons, List.not_mem_nil, or_false, forall_eq_or_imp, forall_eq, ne_eq, false_imp_iff, implies_true, and_true] at hF)
      simp [results, Tryd.results66, go_sem, hF]
    · have hlt : j < n := by omega
      have hlt2 : (j : Int) < n := by omega
      have hj0 : (0 : Int) ≤ (j : Int) := by omega
      obtain ⟨q, o, rfl, hc1, hc2, hq⟩ := hA (by omega)
      obtain ⟨q', o', rfl, hc3, hc4, hq'⟩ := hA' (by omega)
      obtain ⟨x, hx⟩ : ∃ x, v[j]? = some x := ⟨_, List.getElem?_eq_getElem (by have := HN.out.1; omega)⟩
      obtain ⟨z, hz⟩ : ∃ x, s[j]? = some x := ⟨_, List.getElem?_eq_getElem (by have := HN.out.2; omega)⟩
      obtain ⟨d0, d1, d2, d3, d4, d5⟩ := noteAt (H1.out.below hO.base) hx
      have HX := hid hx
      have HZ := hid hz
      cases hxr : x.r
      · have hof := it_hit (by rw [HN.out.1, HN.out.2]) hr.out hx hz hxr
        rw [HIT.out] at hof
        have HOF := hid (fun W (hW : Below w.heap.size w W) => ofI16 hof.symm W (HT.out.below hW))
        rw [hxr] at d0
        clear hof he hx hz hxr hr
        go_wp2_with fail
        apply own_code hO
        (repeat (first | (with_reducible exact hO) | (with_reducible apply Own.alloc) | (with_reducible apply Own.drew) | ((with_reducible apply Own.set_at); (focus (show _ ≤ _; omega)))))
        have hG := hF; clear hF; clear hO; intro hO
        (try simp only [World.size_alloc1, World.size_drew, Nat.reduceAdd] at hO); (try simp only [upd, updI, List.map_cons, List.map_nil, eq_self, if_true, if_false, reduceIte, Nat.add_eq_left, Nat.left_eq_add, Nat.reduceEqDiff, List.set_cons_zero, List.set_cons_succ, hG] at hO); clear hG
        refine region_own (X := fun _ => True) [10] (by kernel_rfl) (hO) (trivial) (by first | exact XStab.true | exact XStab.rd | exact XStab.rdIf) ?_
        clear hO
        refine Sim.sP (i := 0) (d := some 18) (h := ?_)
        refine Sim.sO (i := 1) (d := some 19) (v := ?_) (hy := ?_) (h := ?_)
        rotate_left
        · first | refine Or.inl ⟨by rfl, fun w hO => ?_⟩ | (refine Or.inr ⟨by rfl, ?_⟩; with_reducible rfl)
          first | done | (have hF := hO; (try simp only [Own, Item.Holds, apartI, CellsAt, Nat.reduceAdd, Nat.zero_add, List.mem_cons, List.not_mem_nil, or_false, forall_eq_or_imp, forall_eq, ne_eq, false_imp_iff, implies_true, and_true] at hF); ((have ⟨g0, g1, g2, g3, g4, g5⟩ := noteAt (H2.out.below hO.base) HZ.out)); refine Out.same ?_; go_simp; all_goals with_reducible rfl)
        refine Sim.sP (i := 2) (d := some 20) (h := ?_)
        refine Sim.sP (i := 3) (d := some 21) (h := ?_)
        refine Sim.sP (i := 4) (d := some 22) (h := ?_)
        refine Sim.sP (i := 5) (d := some 23) (h := ?_)
        refine Sim.sO (i := 6) (d := some 24) (v := ?_) (hy := ?_) (h := ?_)
        rotate_left
        · first | refine Or.inl ⟨by rfl, fun w hO => ?_⟩ | (refine Or.inr ⟨by rfl, ?_⟩; with_reducible rfl)
          first | done | (have hF := hO; (try simp only [Own, Item.Holds, apartI, CellsAt, Nat.reduceAdd, Nat.zero_add, List.mem_cons, List.not_mem_nil, or_false, forall_eq_or_imp, forall_eq, ne_eq, false_imp_iff, implies_true, and_true] at hF); ((have ⟨g0, g1, g2, g3, g4, g5⟩ := noteAt (H2.out.below hO.base) HZ.out)); refine Out.same ?_; go_simp; all_goals with_reducible rfl)
        refine Sim.sO (i := 7) (d := some 25) (v := ?_) (hy := ?_) (h := ?_)
        rotate_left
        · first | refine Or.inl ⟨by rfl, fun w hO => ?_⟩ | (refine Or.inr ⟨by rfl, ?_⟩; with_reducible rfl)
          first | done | (refine Out.call (f := 98) (args := ?_) ?_ ?_; rotate_left; (focus (go_simp; all_goals with_reducible rfl)); exact HOF.out _ hO.base)
        refine Sim.sP (i := 8) (d := some 26) (h := ?_)
        refine Sim.sP (i := 9) (d := some 27) (h := ?_)
        refine Sim.one' (i := 10) (oi := { dst := none, op := Op.store 31 (Operand.tmp 4) (Operand.tmp 26), type := 0, pos := "l16_canons.go:151", after := #[{ on := 8, ground := Ground.data }, { on := 7, ground := Ground.chain }, { on := 0, ground := Ground.phase }, { on := 1, ground := Ground.phase }, { on := 2, ground := Ground.phase }, { on := 3, ground := Ground.phase }, { on := 4, ground := Ground.phase }, { on := 5, ground := Ground.phase }, { on := 6, ground := Ground.phase }, { on := 7, ground := Ground.phase }, { on := 8, ground := Ground.phase }, { on := 9, ground := Ground.phase }], guard := none }) (by kernel_rfl) rfl (by rfl) (fun w0 hO hX K hK => ?_)
        have hF := hO; (try simp only [Own, Item.Holds, apartI, CellsAt, Nat.reduceAdd, Nat.zero_add, List.mem_cons, List.not_mem_nil, or_false, forall_eq_or_imp, forall_eq, ne_eq, false_imp_iff, implies_true, and_true] at hF); ((have ⟨g0, g1, g2, g3, g4, g5⟩ := noteAt (H2.out.below hO.base) HZ.out))
        go_simp
        apply hK _ _ _ (fun _ => True)
        (repeat (first | (with_reducible exact hO) | (with_reducible apply Own.alloc) | (with_reducible apply Own.drew) | ((with_reducible apply Own.set_at); (focus (show _ ≤ _; omega)))))
        · first | exact trivial | exact hX | exact hX.below (below1 _) | exact RdIf.gone | exact hX.keep ((Below.refl _ _).setCell (by first | omega | (dsimp only; omega)) _)
        · exact (by first | exact XStab.true | exact XStab.rd | exact XStab.rdIf)
        · first | exact fun _ _ h => h.2 | exact fun _ _ h => h | exact fun h => absurd h (by decide)
        try simp only [upd, updI, List.map_cons, List.map_nil, eq_self, if_true, if_false, reduceIte, Nat.add_eq_left, Nat.left_eq_add, Nat.reduceEqDiff, List.set_cons_zero, List.set_cons_succ, hF]
        clear hK K hF hO
        try simp only [Act.put, List.setIfInBounds_toArray, List.set_cons_zero, List.set_cons_succ]
        refine Sim.sP (i := 11) (d := some 5) (h := ?_)
        refine Sim.done (by kernel_rfl) (fun w1 hO hX => ?_) _
        (try simp only [World.size_alloc1, World.size_drew, Nat.reduceAdd] at hO); (try simp only [upd, updI, List.map_cons, List.map_nil, eq_self, if_true, if_false, reduceIte, Nat.add_eq_left, Nat.left_eq_add, Nat.reduceEqDiff, List.set_cons_zero, List.set_cons_succ] at hO)
        have hF := hO; (try simp only [Own, Item.Holds, apartI, CellsAt, Nat.reduceAdd, Nat.zero_add, List.mem_cons, List.not_mem_nil, or_false, forall_eq_or_imp, forall_eq, ne_eq, false_imp_iff, implies_true, and_true] at hF)
        go_wp2_with fail
        apply own_end hO
        (repeat (first | (with_reducible exact hO) | (with_reducible apply Own.alloc) | (with_reducible apply Own.drew) | ((with_reducible apply Own.set_at); (focus (show _ ≤ _; omega)))))
        have hG := hF; clear hF; clear hO; intro hO
        refine own_ret (v := .tuple #[.agg #[.int .i64 st, .int .i64 ha], .bool b]) hO ?_ rfl (fun hO => ⟨rfl, hO.base⟩)
        clear hO; intro w1 hO
        (try simp only [World.size_alloc1, World.size_drew, Nat.reduceAdd] at hO); (try simp only [upd, updI, List.map_cons, List.map_nil, eq_self, if_true, if_false, reduceIte, Nat.add_eq_left, Nat.left_eq_add, Nat.reduceEqDiff, List.set_cons_zero, List.set_cons_succ, hG] at hO); clear hG
        have hF := hO; (try simp only [Own, Item.Holds, apartI, CellsAt, Nat.reduceAdd, Nat.zero_add, List.mem_cons, List.not_mem_nil, or_false, forall_eq_or_imp, forall_eq, ne_eq, false_imp_iff, implies_true, and_true] at hF)
        simp [results, Tryd.results66, go_sem, hF]
      · have HR := hid (fun (i : Nat) (y : Nt) (hi : i < j + 1) (hy : v[i]? = some y) => show y.r = true by
          rcases (show i < j ∨ i = j by omega) with h | rfl
          · exact hr.out i y h hy
          · rw [HX.out] at hy; cases hy; exact hxr)
        rw [hxr] at d0
        clear he hx hz hxr hr
        go_wp2_with fail
        go_roundw
        case rel => exact ⟨j + 1, by omega, by go_num, HR.out, Own.drop (by (repeat (first | (with_reducible exact hO) | (with_reducible apply Own.alloc) | (with_reducible apply Own.drew) | ((with_reducible apply Own.set_at); (focus (show _ ≤ _; omega))))))⟩
        case measure => simp [intOf]; omega

end Go.Proofs.YtmkhpafcgobfhaaDoor
