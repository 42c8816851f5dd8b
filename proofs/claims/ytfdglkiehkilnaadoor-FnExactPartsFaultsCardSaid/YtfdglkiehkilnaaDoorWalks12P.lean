/- Chapter 12 in the model: PartsFaults. -/
import Derived.Test.YtfdglkiehkilnaaDoorWalks12S
import Derived.Test.YtfdglkiehkilnaaDoorRegionD
namespace Go.Proofs.YtfdglkiehkilnaaDoor
set_option linter.unusedSimpArgs false
set_option linter.unusedVariables false
set_option maxRecDepth 8000
open Go.RowKit

set_option maxRecDepth 20000 in
set_option maxHeartbeats 8000000 in
theorem paS_of (hMv : MvS) (va : Value) (ll : List (List Pt)) (w : World) (h : StkR w va ll) (hn : ll.length ≤ 1048576) (hle : ∀ l ∈ ll, l.length ≤ 1048576) :
    Calls Tryd.prog 33 #[va] w (RowOut 36 2 (paZ ll).length (tnC (paZ ll)) w) := by
  have hO := Own.start w
  have hF := True.intro
  obtain ⟨i0, hi0, hz0, hz1, hz2⟩ := info_parts infoFa
  obtain ⟨A, c, rfl, nb, hA⟩ := h.open
  obtain ⟨n, hnl⟩ : ∃ n, ll.length = n := ⟨_, rfl⟩
  have HN := hid hnl
  have HLE := hid hle
  rw [hnl] at hn nb hA ⊢
  clear h hle
  by_cases h8 : n ≤ 8
  · have h8' : (n : Int) ≤ 8 := by omega
    have HE := hid (show paZ ll = paF ll n by unfold paZ; rw [hnl, if_pos h8])
    clear hnl
    go_enter Tryd.func33, Tryd.ntmps33
    go_wp2_with fail
    go_loopw [3, 4] (fun u t wr => ∃ k : Nat, k ≤ n ∧ t = .int .i64 k ∧ Own w.heap.size (Below w.heap.size w) wr [.row 36 2 u (paF ll k).length (tnC (paF ll k))]) (fun _ t _ => n - (intOf t).toNat)
    case atStart => exact ⟨0, by omega, rfl, hO.allocRow (e := 36) (cur := #[]) (k := 0) (cap := 0) 2 (by omega) (by unfold maxLen; omega) rfl⟩
    case round =>
      clear hO hF
      obtain ⟨k, hk, rfl, hO⟩ := hrel
      have hF := hO; (try simp only [Own, Item.Holds, apartI, CellsAt, Nat.reduceAdd, Nat.zero_add, List.mem_cons, List.not_mem_nil, or_false, forall_eq_or_imp, forall_eq, ne_eq, false_imp_iff, implies_true, and_true] at hF)
      by_cases he : k = n
      · subst he
        go_wp2_with fail
        go_ret
        rw [HE.out]
        exact RowOut.mk hO
      · have hkl : k < n := by omega
        have hkl2 : (k : Int) < n := by omega
        have hk0 : (0 : Int) ≤ (k : Int) := by omega
        obtain ⟨b, off, rfl, hc1, hc2, hb, hcell⟩ := hA (by omega)
        obtain ⟨l, hl⟩ : ∃ l, ll[k]? = some l := ⟨_, List.getElem?_eq_getElem (by have := HN.out; omega)⟩
        obtain ⟨A1, c1, hs1, d1⟩ := hcell k l hl
        have hll := HLE.out l (List.mem_of_getElem? hl)
        obtain ⟨n1, hn1⟩ : ∃ n, l.length = n := ⟨_, rfl⟩
        rw [hn1] at hs1 d1 hll
        obtain ⟨s, hs⟩ : ∃ s, stZ l = s := ⟨_, rfl⟩
        have HS1 := hid (stS_is hn1 hll hs hs1)
        have HD1 := hid (fun W (hW : Below w.heap.size w W) => ((bcell hW).1 b (off + k) hb).trans d1)
        have hql := paF_len ll k
        rcases (show k = 0 ∨ ∃ p, k = p + 1 by cases k with | zero => exact Or.inl rfl | succ p => exact Or.inr ⟨p, rfl⟩) with rfl | ⟨p, rfl⟩
        · have HU := hid (pa_first hl hs)
          obtain ⟨q, hq⟩ : ∃ q, (paF ll 0).length = q := ⟨_, rfl⟩
          have HQ := hid hq
          rw [hq] at hO hql
          have e1 := HD1.out _ hO.base
          rw [Nat.add_zero] at e1
          by_cases hs0 : s = 0
          · subst hs0
            have HU2 := hid (show paF ll (0 + 1) = paF ll 0 by rw [HU.out, if_pos rfl, List.append_nil])
            clear he hl hcell hs1 d1 hs hq HU hn1
            go_wp2_with (go_at_call 70; apply own_at hO; (repeat (first | (with_reducible exact hO) | (with_reducible apply Own.alloc) | (with_reducible apply Own.drew) | ((with_reducible apply Own.set_at); (focus (show _ ≤ _; omega))))); have hG := hF; clear hF; clear hO; intro hO; refine own_call hO (fun hB => HS1.out _ hB) ?_; clear hO; intro w1 hO; (try simp only [World.size_alloc1, World.size_drew, Nat.reduceAdd] at hO); (try simp only [upd, updI, List.map_cons, List.map_nil, eq_self, if_true, if_false, reduceIte, Nat.add_eq_left, Nat.left_eq_add, Nat.reduceEqDiff, List.set_cons_zero, List.set_cons_succ, hG] at hO); clear hG; have hF := hO; (try simp only [Own, Item.Holds, apartI, CellsAt, Nat.reduceAdd, Nat.zero_add, List.mem_cons, List.not_mem_nil, or_false, forall_eq_or_imp, forall_eq, ne_eq, false_imp_iff, implies_true, and_true] at hF))
            go_roundw
            case rel => exact ⟨0 + 1, by omega, by go_num, by rw [HU2.out, HQ.out]; exact hO⟩
            case measure => simp [intOf]; omega
          · have hs2 : (s == 0) = false := by simp [hs0]
            have hs3 : (s != 0) = true := by simp [hs0]
            have HU2 := hid (show tnC (paF ll 0) ++ [.int .i64 ((0 : Nat) : Int), .int .i64 s] = tnC (paF ll (0 + 1)) ∧ q + 1 = (paF ll (0 + 1)).length by
              rw [HU.out, if_neg hs0, tnC_snoc, List.length_append, HQ.out]; exact ⟨rfl, rfl⟩)
            clear he hl hcell hs1 d1 hs hq HU hs0 hn1
            go_wp2_with (first | (go_at_call 70; apply own_at hO; (repeat (first | (with_reducible exact hO) | (with_reducible apply Own.alloc) | (with_reducible apply Own.drew) | ((with_reducible apply Own.set_at); (focus (show _ ≤ _; omega))))); have hG := hF; clear hF; clear hO; intro hO; refine own_call hO (fun hB => HS1.out _ hB) ?_; clear hO; intro w1 hO; (try simp only [World.size_alloc1, World.size_drew, Nat.reduceAdd] at hO); (try simp only [upd, updI, List.map_cons, List.map_nil, eq_self, if_true, if_false, reduceIte, Nat.add_eq_left, Nat.left_eq_add, Nat.reduceEqDiff, List.set_cons_zero, List.set_cons_succ, hG] at hO); clear hG; have hF := hO; (try simp only [Own, Item.Holds, apartI, CellsAt, Nat.reduceAdd, Nat.zero_add, List.mem_cons, List.not_mem_nil, or_false, forall_eq_or_imp, forall_eq, ne_eq, false_imp_iff, implies_true, and_true] at hF)) | (at_builtin; apply own_list hO; (repeat (first | (with_reducible exact hO) | (with_reducible apply Own.alloc) | (with_reducible apply Own.drew) | ((with_reducible apply Own.set_at); (focus (show _ ≤ _; omega))))); have hG := hF; clear hF; clear hO; intro hO; (try simp only [World.size_alloc1, World.size_drew, Nat.reduceAdd] at hO); (try simp only [upd, updI, List.map_cons, List.map_nil, eq_self, if_true, if_false, reduceIte, Nat.add_eq_left, Nat.left_eq_add, Nat.reduceEqDiff, List.set_cons_zero, List.set_cons_succ, hG] at hO); clear hG; (try simp only [World.size_setCell] at hO); have hF := hO; (try simp only [Own, Item.Holds, apartI, CellsAt, Nat.reduceAdd, Nat.zero_add, List.mem_cons, List.not_mem_nil, or_false, forall_eq_or_imp, forall_eq, ne_eq, false_imp_iff, implies_true, and_true] at hF); refine wpList_append_item rfl _ _ 33 rfl 36 i0 (.agg #[.int .i64 0, .int .i64 0]) 2 16 Tryd.underlying33 hi0 hz0 hz1 hz2 rfl (by decide) rfl rfl hO rfl one2t (by unfold maxLen; omega) (by omega) ?_; clear hO hF; intro v' w2 hO _; have hF := True.intro))
            go_roundw
            case rel => exact ⟨0 + 1, by omega, by go_num, by rw [← HU2.out.1, ← HU2.out.2]; exact hO⟩
            case measure => simp [intOf]; omega
        · obtain ⟨l', hl'⟩ : ∃ l, ll[p]? = some l := ⟨_, List.getElem?_eq_getElem (by have := HN.out; omega)⟩
          obtain ⟨A2, c2, hs2', d2⟩ := hcell p l' hl'
          have hll' := HLE.out l' (List.mem_of_getElem? hl')
          obtain ⟨n2, hn2⟩ : ∃ n, l'.length = n := ⟨_, rfl⟩
          rw [hn2] at hs2' d2 hll'
          obtain ⟨m, hm⟩ : ∃ m, mvZ l' l = m := ⟨_, rfl⟩
          have HM := hid (mvS_is hMv hn2 hn1 hll' hll hm hs2' hs1)
          have HD2 := hid (fun W (hW : Below w.heap.size w W) => ((bcell hW).1 b (off + p) hb).trans d2)
          have HU0 := pa_next hl' hl hs hm
          have p0 : (0 : Int) ≤ (p : Int) := by omega
          have p1 : (0 : Int) < (p : Int) + 1 := by omega
          have p2 : (p : Int) < (n : Int) := by omega
          have p3 : (p : Int) + 1 < (n : Int) := by omega
          have p4 : (0 : Int) ≤ (p : Int) + 1 := by omega
          have wi : IntKind.i64.wrap ((p : Int) + 1 - 1) = (p : Int) := by rw [show (p : Int) + 1 - 1 = (p : Int) by omega]; exact IntWalk.i64_in _ (by omega)
          have wi2 : IntKind.i64.wrap (p : Int) = (p : Int) := IntWalk.i64_in _ (by omega)
          have wj : IntKind.i64.wrap ((p : Int) + 1 + 1) = (p : Int) + 1 + 1 := IntWalk.i64_in _ (by omega)
          obtain ⟨q, hq⟩ : ∃ q, (paF ll (p + 1)).length = q := ⟨_, rfl⟩
          have HQ := hid hq
          rw [hq] at hO hql
          have e1 := HD1.out _ hO.base
          have hc : (((p + 1 : Nat)) : Int) = (p : Int) + 1 := by omega
          rw [hc] at HU0
          by_cases hs0 : s = 0
          · by_cases hm0 : m = 0
            · subst hs0
              subst hm0
              have HU := hid (show tnC (paF ll (p + 1)) = tnC (paF ll (p + 1 + 1)) ∧ q = (paF ll (p + 1 + 1)).length by
                rw [HU0]
                simp only [if_true, List.nil_append, List.append_nil, reduceIte]
                refine ⟨?_, ?_⟩
                · simp [tnC, ivC2]
                · simp [hq])
              clear HU0 hc he hl hl' hcell hs1 hs2' d1 d2 hs hm hq hn1 hn2
              go_wp2_with (go_at_call 70; apply own_at hO; (repeat (first | (with_reducible exact hO) | (with_reducible apply Own.alloc) | (with_reducible apply Own.drew) | ((with_reducible apply Own.set_at); (focus (show _ ≤ _; omega))))); have hG := hF; clear hF; clear hO; intro hO; refine own_call hO (fun hB => HS1.out _ hB) ?_; clear hO; intro w1 hO; (try simp only [World.size_alloc1, World.size_drew, Nat.reduceAdd] at hO); (try simp only [upd, updI, List.map_cons, List.map_nil, eq_self, if_true, if_false, reduceIte, Nat.add_eq_left, Nat.left_eq_add, Nat.reduceEqDiff, List.set_cons_zero, List.set_cons_succ, hG] at hO); clear hG; have hF := hO; (try simp only [Own, Item.Holds, apartI, CellsAt, Nat.reduceAdd, Nat.zero_add, List.mem_cons, List.not_mem_nil, or_false, forall_eq_or_imp, forall_eq, ne_eq, false_imp_iff, implies_true, and_true] at hF))
              apply own_code hO
              (repeat (first | (with_reducible exact hO) | (with_reducible apply Own.alloc) | (with_reducible apply Own.drew) | ((with_reducible apply Own.set_at); (focus (show _ ≤ _; omega)))))
              have hG := hF; clear hF; clear hO; intro hO
              (try simp only [World.size_alloc1, World.size_drew, Nat.reduceAdd] at hO); (try simp only [upd, updI, List.map_cons, List.map_nil, eq_self, if_true, if_false, reduceIte, Nat.add_eq_left, Nat.left_eq_add, Nat.reduceEqDiff, List.set_cons_zero, List.set_cons_succ, hG] at hO); clear hG
              refine region_own (X := fun _ => True) [] (by kernel_rfl) (hO) (trivial) (by first | exact XStab.true | exact XStab.rd | exact XStab.rdIf) ?_
              clear hO
              refine Sim.sP (i := 0) (d := some 34) (h := ?_)
              refine Sim.sP (i := 1) (d := some 35) (h := ?_)
              refine Sim.sP (i := 2) (d := some 36) (h := ?_)
              refine Sim.sP (i := 3) (d := some 37) (h := ?_)
              refine Sim.sO (i := 4) (d := some 38) (v := ?_) (hy := ?_) (h := ?_)
              rotate_left
              · first | refine Or.inl ⟨by rfl, fun w hO => ?_⟩ | (refine Or.inr ⟨by rfl, ?_⟩; with_reducible rfl)
                first | done | (have hF := hO; (try simp only [Own, Item.Holds, apartI, CellsAt, Nat.reduceAdd, Nat.zero_add, List.mem_cons, List.not_mem_nil, or_false, forall_eq_or_imp, forall_eq, ne_eq, false_imp_iff, implies_true, and_true] at hF); ((have e1 := HD1.out _ hO.base; have e2 := HD2.out _ hO.base)); refine Out.same ?_; go_simp; all_goals with_reducible rfl)
              refine Sim.sP (i := 5) (d := some 39) (h := ?_)
              refine Sim.sP (i := 6) (d := some 40) (h := ?_)
              refine Sim.sP (i := 7) (d := some 41) (h := ?_)
              refine Sim.sO (i := 8) (d := some 42) (v := ?_) (hy := ?_) (h := ?_)
              rotate_left
              · first | refine Or.inl ⟨by rfl, fun w hO => ?_⟩ | (refine Or.inr ⟨by rfl, ?_⟩; with_reducible rfl)
                first | done | (have hF := hO; (try simp only [Own, Item.Holds, apartI, CellsAt, Nat.reduceAdd, Nat.zero_add, List.mem_cons, List.not_mem_nil, or_false, forall_eq_or_imp, forall_eq, ne_eq, false_imp_iff, implies_true, and_true] at hF); ((have e1 := HD1.out _ hO.base; have e2 := HD2.out _ hO.base)); refine Out.same ?_; go_simp; all_goals with_reducible rfl)
              refine Sim.sO (i := 9) (d := some 43) (v := ?_) (hy := ?_) (h := ?_)
              rotate_left
              · first | refine Or.inl ⟨by rfl, fun w hO => ?_⟩ | (refine Or.inr ⟨by rfl, ?_⟩; with_reducible rfl)
                first | done | (refine Out.call (f := 71) (args := ?_) ?_ ?_; rotate_left; (focus (go_simp; all_goals with_reducible rfl)); exact HM.out _ hO.base)
              refine Sim.sP (i := 10) (d := some 6) (h := ?_)
              refine Sim.done (by kernel_rfl) (fun w1 hO hX => ?_) _
              (try simp only [World.size_alloc1, World.size_drew, Nat.reduceAdd] at hO); (try simp only [upd, updI, List.map_cons, List.map_nil, eq_self, if_true, if_false, reduceIte, Nat.add_eq_left, Nat.left_eq_add, Nat.reduceEqDiff, List.set_cons_zero, List.set_cons_succ] at hO)
              have hF := hO; (try simp only [Own, Item.Holds, apartI, CellsAt, Nat.reduceAdd, Nat.zero_add, List.mem_cons, List.not_mem_nil, or_false, forall_eq_or_imp, forall_eq, ne_eq, false_imp_iff, implies_true, and_true] at hF)
              all_goals
                go_wp2_with fail
                go_roundw
                case rel => exact ⟨p + 1 + 1, by omega, by go_num, by rw [← HU.out.1, ← HU.out.2]; exact hO⟩
                case measure => simp [intOf]; omega
            · subst hs0
              have hm2 : (m == 0) = false := by simp [hm0]
              have hm3 : (m != 0) = true := by simp [hm0]
              have HU := hid (show (tnC (paF ll (p + 1)) ++ [.int .i64 ((p : Int) + 1), .int .i64 m]) = tnC (paF ll (p + 1 + 1)) ∧ q + 1 = (paF ll (p + 1 + 1)).length by
                rw [HU0]
                simp only [if_true, if_neg hm0, List.nil_append, List.append_nil, reduceIte]
                refine ⟨?_, ?_⟩
                · simp [tnC, ivC2]
                · simp [hq])
              clear HU0 hc he hl hl' hcell hs1 hs2' d1 d2 hs hm hq hn1 hn2 hm0
              go_wp2_with (go_at_call 70; apply own_at hO; (repeat (first | (with_reducible exact hO) | (with_reducible apply Own.alloc) | (with_reducible apply Own.drew) | ((with_reducible apply Own.set_at); (focus (show _ ≤ _; omega))))); have hG := hF; clear hF; clear hO; intro hO; refine own_call hO (fun hB => HS1.out _ hB) ?_; clear hO; intro w1 hO; (try simp only [World.size_alloc1, World.size_drew, Nat.reduceAdd] at hO); (try simp only [upd, updI, List.map_cons, List.map_nil, eq_self, if_true, if_false, reduceIte, Nat.add_eq_left, Nat.left_eq_add, Nat.reduceEqDiff, List.set_cons_zero, List.set_cons_succ, hG] at hO); clear hG; have hF := hO; (try simp only [Own, Item.Holds, apartI, CellsAt, Nat.reduceAdd, Nat.zero_add, List.mem_cons, List.not_mem_nil, or_false, forall_eq_or_imp, forall_eq, ne_eq, false_imp_iff, implies_true, and_true] at hF))
              apply own_code hO
              (repeat (first | (with_reducible exact hO) | (with_reducible apply Own.alloc) | (with_reducible apply Own.drew) | ((with_reducible apply Own.set_at); (focus (show _ ≤ _; omega)))))
              have hG := hF; clear hF; clear hO; intro hO
              (try simp only [World.size_alloc1, World.size_drew, Nat.reduceAdd] at hO); (try simp only [upd, updI, List.map_cons, List.map_nil, eq_self, if_true, if_false, reduceIte, Nat.add_eq_left, Nat.left_eq_add, Nat.reduceEqDiff, List.set_cons_zero, List.set_cons_succ, hG] at hO); clear hG
              refine region_own (X := fun _ => True) [] (by kernel_rfl) (hO) (trivial) (by first | exact XStab.true | exact XStab.rd | exact XStab.rdIf) ?_
              clear hO
              refine Sim.sP (i := 0) (d := some 34) (h := ?_)
              refine Sim.sP (i := 1) (d := some 35) (h := ?_)
              refine Sim.sP (i := 2) (d := some 36) (h := ?_)
              refine Sim.sP (i := 3) (d := some 37) (h := ?_)
              refine Sim.sO (i := 4) (d := some 38) (v := ?_) (hy := ?_) (h := ?_)
              rotate_left
              · first | refine Or.inl ⟨by rfl, fun w hO => ?_⟩ | (refine Or.inr ⟨by rfl, ?_⟩; with_reducible rfl)
                first | done | (have hF := hO; (try simp only [Own, Item.Holds, apartI, CellsAt, Nat.reduceAdd, Nat.zero_add, List.mem_cons, List.not_mem_nil, or_false, forall_eq_or_imp, forall_eq, ne_eq, false_imp_iff, implies_true, and_true] at hF); ((have e1 := HD1.out _ hO.base; have e2 := HD2.out _ hO.base)); refine Out.same ?_; go_simp; all_goals with_reducible rfl)
              refine Sim.sP (i := 5) (d := some 39) (h := ?_)
              refine Sim.sP (i := 6) (d := some 40) (h := ?_)
              refine Sim.sP (i := 7) (d := some 41) (h := ?_)
              refine Sim.sO (i := 8) (d := some 42) (v := ?_) (hy := ?_) (h := ?_)
              rotate_left
              · first | refine Or.inl ⟨by rfl, fun w hO => ?_⟩ | (refine Or.inr ⟨by rfl, ?_⟩; with_reducible rfl)
                first | done | (have hF := hO; (try simp only [Own, Item.Holds, apartI, CellsAt, Nat.reduceAdd, Nat.zero_add, List.mem_cons, List.not_mem_nil, or_false, forall_eq_or_imp, forall_eq, ne_eq, false_imp_iff, implies_true, and_true] at hF); ((have e1 := HD1.out _ hO.base; have e2 := HD2.out _ hO.base)); refine Out.same ?_; go_simp; all_goals with_reducible rfl)
              refine Sim.sO (i := 9) (d := some 43) (v := ?_) (hy := ?_) (h := ?_)
              rotate_left
              · first | refine Or.inl ⟨by rfl, fun w hO => ?_⟩ | (refine Or.inr ⟨by rfl, ?_⟩; with_reducible rfl)
                first | done | (refine Out.call (f := 71) (args := ?_) ?_ ?_; rotate_left; (focus (go_simp; all_goals with_reducible rfl)); exact HM.out _ hO.base)
              refine Sim.sP (i := 10) (d := some 6) (h := ?_)
              refine Sim.done (by kernel_rfl) (fun w1 hO hX => ?_) _
              (try simp only [World.size_alloc1, World.size_drew, Nat.reduceAdd] at hO); (try simp only [upd, updI, List.map_cons, List.map_nil, eq_self, if_true, if_false, reduceIte, Nat.add_eq_left, Nat.left_eq_add, Nat.reduceEqDiff, List.set_cons_zero, List.set_cons_succ] at hO)
              have hF := hO; (try simp only [Own, Item.Holds, apartI, CellsAt, Nat.reduceAdd, Nat.zero_add, List.mem_cons, List.not_mem_nil, or_false, forall_eq_or_imp, forall_eq, ne_eq, false_imp_iff, implies_true, and_true] at hF)
              all_goals
                go_wp2_with (at_builtin; apply own_list hO; (repeat (first | (with_reducible exact hO) | (with_reducible apply Own.alloc) | (with_reducible apply Own.drew) | ((with_reducible apply Own.set_at); (focus (show _ ≤ _; omega))))); have hG := hF; clear hF; clear hO; intro hO; (try simp only [World.size_alloc1, World.size_drew, Nat.reduceAdd] at hO); (try simp only [upd, updI, List.map_cons, List.map_nil, eq_self, if_true, if_false, reduceIte, Nat.add_eq_left, Nat.left_eq_add, Nat.reduceEqDiff, List.set_cons_zero, List.set_cons_succ, hG] at hO); clear hG; (try simp only [World.size_setCell] at hO); have hF := hO; (try simp only [Own, Item.Holds, apartI, CellsAt, Nat.reduceAdd, Nat.zero_add, List.mem_cons, List.not_mem_nil, or_false, forall_eq_or_imp, forall_eq, ne_eq, false_imp_iff, implies_true, and_true] at hF); refine wpList_append_item rfl _ _ 33 rfl 36 i0 (.agg #[.int .i64 0, .int .i64 0]) 2 16 Tryd.underlying33 hi0 hz0 hz1 hz2 rfl (by decide) rfl rfl hO rfl one2t (by unfold maxLen; omega) (by omega) ?_; clear hO hF; intro v' w2 hO _; have hF := True.intro)
                go_roundw
                case rel => exact ⟨p + 1 + 1, by omega, by go_num, by rw [← HU.out.1, ← HU.out.2]; exact hO⟩
                case measure => simp [intOf]; omega
          · by_cases hm0 : m = 0
            · have hs2 : (s == 0) = false := by simp [hs0]
              have hs3 : (s != 0) = true := by simp [hs0]
              subst hm0
              have HU := hid (show (tnC (paF ll (p + 1)) ++ [.int .i64 ((p : Int) + 1), .int .i64 s]) = tnC (paF ll (p + 1 + 1)) ∧ q + 1 = (paF ll (p + 1 + 1)).length by
                rw [HU0]
                simp only [if_true, if_neg hs0, List.nil_append, List.append_nil, reduceIte]
                refine ⟨?_, ?_⟩
                · simp [tnC, ivC2]
                · simp [hq])
              clear HU0 hc he hl hl' hcell hs1 hs2' d1 d2 hs hm hq hn1 hn2 hs0
              go_wp2_with (first | (go_at_call 70; apply own_at hO; (repeat (first | (with_reducible exact hO) | (with_reducible apply Own.alloc) | (with_reducible apply Own.drew) | ((with_reducible apply Own.set_at); (focus (show _ ≤ _; omega))))); have hG := hF; clear hF; clear hO; intro hO; refine own_call hO (fun hB => HS1.out _ hB) ?_; clear hO; intro w1 hO; (try simp only [World.size_alloc1, World.size_drew, Nat.reduceAdd] at hO); (try simp only [upd, updI, List.map_cons, List.map_nil, eq_self, if_true, if_false, reduceIte, Nat.add_eq_left, Nat.left_eq_add, Nat.reduceEqDiff, List.set_cons_zero, List.set_cons_succ, hG] at hO); clear hG; have hF := hO; (try simp only [Own, Item.Holds, apartI, CellsAt, Nat.reduceAdd, Nat.zero_add, List.mem_cons, List.not_mem_nil, or_false, forall_eq_or_imp, forall_eq, ne_eq, false_imp_iff, implies_true, and_true] at hF)) | (at_builtin; apply own_list hO; (repeat (first | (with_reducible exact hO) | (with_reducible apply Own.alloc) | (with_reducible apply Own.drew) | ((with_reducible apply Own.set_at); (focus (show _ ≤ _; omega))))); have hG := hF; clear hF; clear hO; intro hO; (try simp only [World.size_alloc1, World.size_drew, Nat.reduceAdd] at hO); (try simp only [upd, updI, List.map_cons, List.map_nil, eq_self, if_true, if_false, reduceIte, Nat.add_eq_left, Nat.left_eq_add, Nat.reduceEqDiff, List.set_cons_zero, List.set_cons_succ, hG] at hO); clear hG; (try simp only [World.size_setCell] at hO); have hF := hO; (try simp only [Own, Item.Holds, apartI, CellsAt, Nat.reduceAdd, Nat.zero_add, List.mem_cons, List.not_mem_nil, or_false, forall_eq_or_imp, forall_eq, ne_eq, false_imp_iff, implies_true, and_true] at hF); refine wpList_append_item rfl _ _ 33 rfl 36 i0 (.agg #[.int .i64 0, .int .i64 0]) 2 16 Tryd.underlying33 hi0 hz0 hz1 hz2 rfl (by decide) rfl rfl hO rfl one2t (by unfold maxLen; omega) (by omega) ?_; clear hO hF; intro v' w2 hO _; have hF := True.intro))
              apply own_code hO
              (repeat (first | (with_reducible exact hO) | (with_reducible apply Own.alloc) | (with_reducible apply Own.drew) | ((with_reducible apply Own.set_at); (focus (show _ ≤ _; omega)))))
              have hG := hF; clear hF; clear hO; intro hO
              (try simp only [World.size_alloc1, World.size_drew, Nat.reduceAdd] at hO); (try simp only [upd, updI, List.map_cons, List.map_nil, eq_self, if_true, if_false, reduceIte, Nat.add_eq_left, Nat.left_eq_add, Nat.reduceEqDiff, List.set_cons_zero, List.set_cons_succ, hG] at hO); clear hG
              refine region_own (X := fun _ => True) [] (by kernel_rfl) (hO) (trivial) (by first | exact XStab.true | exact XStab.rd | exact XStab.rdIf) ?_
              clear hO
              refine Sim.sP (i := 0) (d := some 34) (h := ?_)
              refine Sim.sP (i := 1) (d := some 35) (h := ?_)
              refine Sim.sP (i := 2) (d := some 36) (h := ?_)
              refine Sim.sP (i := 3) (d := some 37) (h := ?_)
              refine Sim.sO (i := 4) (d := some 38) (v := ?_) (hy := ?_) (h := ?_)
              rotate_left
              · first | refine Or.inl ⟨by rfl, fun w hO => ?_⟩ | (refine Or.inr ⟨by rfl, ?_⟩; with_reducible rfl)
                first | done | (have hF := hO; (try simp only [Own, Item.Holds, apartI, CellsAt, Nat.reduceAdd, Nat.zero_add, List.mem_cons, List.not_mem_nil, or_false, forall_eq_or_imp, forall_eq, ne_eq, false_imp_iff, implies_true, and_true] at hF); ((have e1 := HD1.out _ hO.base; have e2 := HD2.out _ hO.base)); refine Out.same ?_; go_simp; all_goals with_reducible rfl)
              refine Sim.sP (i := 5) (d := some 39) (h := ?_)
              refine Sim.sP (i := 6) (d := some 40) (h := ?_)
              refine Sim.sP (i := 7) (d := some 41) (h := ?_)
              refine Sim.sO (i := 8) (d := some 42) (v := ?_) (hy := ?_) (h := ?_)
              rotate_left
              · first | refine Or.inl ⟨by rfl, fun w hO => ?_⟩ | (refine Or.inr ⟨by rfl, ?_⟩; with_reducible rfl)
                first | done | (have hF := hO; (try simp only [Own, Item.Holds, apartI, CellsAt, Nat.reduceAdd, Nat.zero_add, List.mem_cons, List.not_mem_nil, or_false, forall_eq_or_imp, forall_eq, ne_eq, false_imp_iff, implies_true, and_true] at hF); ((have e1 := HD1.out _ hO.base; have e2 := HD2.out _ hO.base)); refine Out.same ?_; go_simp; all_goals with_reducible rfl)
              refine Sim.sO (i := 9) (d := some 43) (v := ?_) (hy := ?_) (h := ?_)
              rotate_left
              · first | refine Or.inl ⟨by rfl, fun w hO => ?_⟩ | (refine Or.inr ⟨by rfl, ?_⟩; with_reducible rfl)
                first | done | (refine Out.call (f := 71) (args := ?_) ?_ ?_; rotate_left; (focus (go_simp; all_goals with_reducible rfl)); exact HM.out _ hO.base)
              refine Sim.sP (i := 10) (d := some 6) (h := ?_)
              refine Sim.done (by kernel_rfl) (fun w1 hO hX => ?_) _
              (try simp only [World.size_alloc1, World.size_drew, Nat.reduceAdd] at hO); (try simp only [upd, updI, List.map_cons, List.map_nil, eq_self, if_true, if_false, reduceIte, Nat.add_eq_left, Nat.left_eq_add, Nat.reduceEqDiff, List.set_cons_zero, List.set_cons_succ] at hO)
              have hF := hO; (try simp only [Own, Item.Holds, apartI, CellsAt, Nat.reduceAdd, Nat.zero_add, List.mem_cons, List.not_mem_nil, or_false, forall_eq_or_imp, forall_eq, ne_eq, false_imp_iff, implies_true, and_true] at hF)
              all_goals
                go_wp2_with fail
                go_roundw
                case rel => exact ⟨p + 1 + 1, by omega, by go_num, by rw [← HU.out.1, ← HU.out.2]; exact hO⟩
                case measure => simp [intOf]; omega
            · have hs2 : (s == 0) = false := by simp [hs0]
              have hs3 : (s != 0) = true := by simp [hs0]
              have hm2 : (m == 0) = false := by simp [hm0]
              have hm3 : (m != 0) = true := by simp [hm0]
              have HU := hid (show ((tnC (paF ll (p + 1)) ++ [.int .i64 ((p : Int) + 1), .int .i64 s]) ++ [.int .i64 ((p : Int) + 1), .int .i64 m]) = tnC (paF ll (p + 1 + 1)) ∧ q + 1 + 1 = (paF ll (p + 1 + 1)).length by
                rw [HU0]
                simp only [if_neg hs0, if_neg hm0, List.nil_append, List.append_nil, reduceIte]
                refine ⟨?_, ?_⟩
                · simp [tnC, ivC2]
                · simp [hq])
              clear HU0 hc he hl hl' hcell hs1 hs2' d1 d2 hs hm hq hn1 hn2 hs0 hm0
              go_wp2_with (first | (go_at_call 70; apply own_at hO; (repeat (first | (with_reducible exact hO) | (with_reducible apply Own.alloc) | (with_reducible apply Own.drew) | ((with_reducible apply Own.set_at); (focus (show _ ≤ _; omega))))); have hG := hF; clear hF; clear hO; intro hO; refine own_call hO (fun hB => HS1.out _ hB) ?_; clear hO; intro w1 hO; (try simp only [World.size_alloc1, World.size_drew, Nat.reduceAdd] at hO); (try simp only [upd, updI, List.map_cons, List.map_nil, eq_self, if_true, if_false, reduceIte, Nat.add_eq_left, Nat.left_eq_add, Nat.reduceEqDiff, List.set_cons_zero, List.set_cons_succ, hG] at hO); clear hG; have hF := hO; (try simp only [Own, Item.Holds, apartI, CellsAt, Nat.reduceAdd, Nat.zero_add, List.mem_cons, List.not_mem_nil, or_false, forall_eq_or_imp, forall_eq, ne_eq, false_imp_iff, implies_true, and_true] at hF)) | (at_builtin; apply own_list hO; (repeat (first | (with_reducible exact hO) | (with_reducible apply Own.alloc) | (with_reducible apply Own.drew) | ((with_reducible apply Own.set_at); (focus (show _ ≤ _; omega))))); have hG := hF; clear hF; clear hO; intro hO; (try simp only [World.size_alloc1, World.size_drew, Nat.reduceAdd] at hO); (try simp only [upd, updI, List.map_cons, List.map_nil, eq_self, if_true, if_false, reduceIte, Nat.add_eq_left, Nat.left_eq_add, Nat.reduceEqDiff, List.set_cons_zero, List.set_cons_succ, hG] at hO); clear hG; (try simp only [World.size_setCell] at hO); have hF := hO; (try simp only [Own, Item.Holds, apartI, CellsAt, Nat.reduceAdd, Nat.zero_add, List.mem_cons, List.not_mem_nil, or_false, forall_eq_or_imp, forall_eq, ne_eq, false_imp_iff, implies_true, and_true] at hF); refine wpList_append_item rfl _ _ 33 rfl 36 i0 (.agg #[.int .i64 0, .int .i64 0]) 2 16 Tryd.underlying33 hi0 hz0 hz1 hz2 rfl (by decide) rfl rfl hO rfl one2t (by unfold maxLen; omega) (by omega) ?_; clear hO hF; intro v' w2 hO _; have hF := True.intro))
              apply own_code hO
              (repeat (first | (with_reducible exact hO) | (with_reducible apply Own.alloc) | (with_reducible apply Own.drew) | ((with_reducible apply Own.set_at); (focus (show _ ≤ _; omega)))))
              have hG := hF; clear hF; clear hO; intro hO
              (try simp only [World.size_alloc1, World.size_drew, Nat.reduceAdd] at hO); (try simp only [upd, updI, List.map_cons, List.map_nil, eq_self, if_true, if_false, reduceIte, Nat.add_eq_left, Nat.left_eq_add, Nat.reduceEqDiff, List.set_cons_zero, List.set_cons_succ, hG] at hO); clear hG
              refine region_own (X := fun _ => True) [] (by kernel_rfl) (hO) (trivial) (by first | exact XStab.true | exact XStab.rd | exact XStab.rdIf) ?_
              clear hO
              refine Sim.sP (i := 0) (d := some 34) (h := ?_)
              refine Sim.sP (i := 1) (d := some 35) (h := ?_)
              refine Sim.sP (i := 2) (d := some 36) (h := ?_)
              refine Sim.sP (i := 3) (d := some 37) (h := ?_)
              refine Sim.sO (i := 4) (d := some 38) (v := ?_) (hy := ?_) (h := ?_)
              rotate_left
              · first | refine Or.inl ⟨by rfl, fun w hO => ?_⟩ | (refine Or.inr ⟨by rfl, ?_⟩; with_reducible rfl)
                first | done | (have hF := hO; (try simp only [Own, Item.Holds, apartI, CellsAt, Nat.reduceAdd, Nat.zero_add, List.mem_cons, List.not_mem_nil, or_false, forall_eq_or_imp, forall_eq, ne_eq, false_imp_iff, implies_true, and_true] at hF); ((have e1 := HD1.out _ hO.base; have e2 := HD2.out _ hO.base)); refine Out.same ?_; go_simp; all_goals with_reducible rfl)
              refine Sim.sP (i := 5) (d := some 39) (h := ?_)
              refine Sim.sP (i := 6) (d := some 40) (h := ?_)
              refine Sim.sP (i := 7) (d := some 41) (h := ?_)
              refine Sim.sO (i := 8) (d := some 42) (v := ?_) (hy := ?_) (h := ?_)
              rotate_left
              · first | refine Or.inl ⟨by rfl, fun w hO => ?_⟩ | (refine Or.inr ⟨by rfl, ?_⟩; with_reducible rfl)
                first | done | (have hF := hO; (try simp only [Own, Item.Holds, apartI, CellsAt, Nat.reduceAdd, Nat.zero_add, List.mem_cons, List.not_mem_nil, or_false, forall_eq_or_imp, forall_eq, ne_eq, false_imp_iff, implies_true, and_true] at hF); ((have e1 := HD1.out _ hO.base; have e2 := HD2.out _ hO.base)); refine Out.same ?_; go_simp; all_goals with_reducible rfl)
              refine Sim.sO (i := 9) (d := some 43) (v := ?_) (hy := ?_) (h := ?_)
              rotate_left
              · first | refine Or.inl ⟨by rfl, fun w hO => ?_⟩ | (refine Or.inr ⟨by rfl, ?_⟩; with_reducible rfl)
                first | done | (refine Out.call (f := 71) (args := ?_) ?_ ?_; rotate_left; (focus (go_simp; all_goals with_reducible rfl)); exact HM.out _ hO.base)
              refine Sim.sP (i := 10) (d := some 6) (h := ?_)
              refine Sim.done (by kernel_rfl) (fun w1 hO hX => ?_) _
              (try simp only [World.size_alloc1, World.size_drew, Nat.reduceAdd] at hO); (try simp only [upd, updI, List.map_cons, List.map_nil, eq_self, if_true, if_false, reduceIte, Nat.add_eq_left, Nat.left_eq_add, Nat.reduceEqDiff, List.set_cons_zero, List.set_cons_succ] at hO)
              have hF := hO; (try simp only [Own, Item.Holds, apartI, CellsAt, Nat.reduceAdd, Nat.zero_add, List.mem_cons, List.not_mem_nil, or_false, forall_eq_or_imp, forall_eq, ne_eq, false_imp_iff, implies_true, and_true] at hF)
              all_goals
                go_wp2_with (at_builtin; apply own_list hO; (repeat (first | (with_reducible exact hO) | (with_reducible apply Own.alloc) | (with_reducible apply Own.drew) | ((with_reducible apply Own.set_at); (focus (show _ ≤ _; omega))))); have hG := hF; clear hF; clear hO; intro hO; (try simp only [World.size_alloc1, World.size_drew, Nat.reduceAdd] at hO); (try simp only [upd, updI, List.map_cons, List.map_nil, eq_self, if_true, if_false, reduceIte, Nat.add_eq_left, Nat.left_eq_add, Nat.reduceEqDiff, List.set_cons_zero, List.set_cons_succ, hG] at hO); clear hG; (try simp only [World.size_setCell] at hO); have hF := hO; (try simp only [Own, Item.Holds, apartI, CellsAt, Nat.reduceAdd, Nat.zero_add, List.mem_cons, List.not_mem_nil, or_false, forall_eq_or_imp, forall_eq, ne_eq, false_imp_iff, implies_true, and_true] at hF); refine wpList_append_item rfl _ _ 33 rfl 36 i0 (.agg #[.int .i64 0, .int .i64 0]) 2 16 Tryd.underlying33 hi0 hz0 hz1 hz2 rfl (by decide) rfl rfl hO rfl one2t (by unfold maxLen; omega) (by omega) ?_; clear hO hF; intro v' w2 hO _; have hF := True.intro)
                go_roundw
                case rel => exact ⟨p + 1 + 1, by omega, by go_num, by rw [← HU.out.1, ← HU.out.2]; exact hO⟩
                case measure => simp [intOf]; omega
  · have h8' : ¬ (n : Int) ≤ 8 := by omega
    have HE := hid (show paZ ll = [] by unfold paZ; rw [hnl, if_neg h8])
    clear hnl
    go_enter Tryd.func33, Tryd.ntmps33
    go_wp2_with fail
    go_loopw [3, 4] (fun u t wr => t = .int .i64 0 ∧ Own w.heap.size (Below w.heap.size w) wr [.row 36 2 u 0 []]) (fun _ _ _ => 0)
    case atStart => exact ⟨rfl, hO.allocRow (e := 36) (cur := #[]) (k := 0) (cap := 0) 2 (by omega) (by unfold maxLen; omega) rfl⟩
    case round =>
      clear hO hF
      obtain ⟨rfl, hO⟩ := hrel
      have hF := hO; (try simp only [Own, Item.Holds, apartI, CellsAt, Nat.reduceAdd, Nat.zero_add, List.mem_cons, List.not_mem_nil, or_false, forall_eq_or_imp, forall_eq, ne_eq, false_imp_iff, implies_true, and_true] at hF)
      by_cases hz : 0 < n
      · have hz' : (0 : Int) < (n : Int) := by omega
        go_wp2_with fail
        go_ret
        rw [HE.out]
        exact RowOut.mk hO
      · have hz' : ¬ (0 : Int) < (n : Int) := by omega
        go_wp2_with fail
        go_ret
        rw [HE.out]
        exact RowOut.mk hO
end Go.Proofs.YtfdglkiehkilnaaDoor
