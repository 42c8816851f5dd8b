/- Chapter 5 in the model: notes and voices that are valid; ticks; the note at a tick. -/
import Derived.Test.YtcgcnkddgihkpaaDoorWalksNS
import Derived.Test.YtcgcnkddgihkpaaDoorPure5
import Derived.Test.YtcgcnkddgihkpaaDoorRegionD
namespace Go.Proofs.YtcgcnkddgihkpaaDoor
set_option linter.unusedSimpArgs false
set_option linter.unusedVariables false
set_option maxRecDepth 8000
open Go.RowKit

set_option maxHeartbeats 4000000 in
theorem nvS_any (x : Nt) (w : World) :
    Calls Tryd.prog 86 #[.agg #[.bool x.r, .int .i64 x.s, .int .i64 x.a, .int .i64 x.o, .int .i64 x.t, .bool x.y]] w fun e w' => e = .returned (.bool (nvB x)) ∧ Below w.heap.size w w' := by
  have hO := Own.start w
  have hF := True.intro
  obtain ⟨r, s, a, o, t, y⟩ := x
  simp only
  cases r <;> cases y
  all_goals
    go_enter Tryd.func86, Tryd.ntmps86
    go_wp2_with (first | (go_at_call 55; refine (in_any _ _ _ _).mono ?_; rintro e w1 ⟨rfl, rfl⟩) | (go_at_call 87; apply own_at hO; (repeat (first | (with_reducible exact hO) | (with_reducible apply Own.alloc) | (with_reducible apply Own.drew) | ((with_reducible apply Own.set_at); (focus (show _ ≤ _; omega))))); have hG := hF; clear hF; clear hO; intro hO; refine own_call hO (fun hB => pvS_any _ _ _ _) ?_; clear hO; intro w1 hO; (try simp only [World.size_alloc1, World.size_drew, Nat.reduceAdd] at hO); (try simp only [upd, updI, List.map_cons, List.map_nil, eq_self, if_true, if_false, reduceIte, Nat.add_eq_left, Nat.left_eq_add, Nat.reduceEqDiff, List.set_cons_zero, List.set_cons_succ, hG] at hO); clear hG; have hF := hO; (try simp only [Own, Item.Holds, apartI, CellsAt, Nat.reduceAdd, Nat.zero_add, List.mem_cons, List.not_mem_nil, or_false, forall_eq_or_imp, forall_eq, ne_eq, false_imp_iff, implies_true, and_true] at hF)))
    all_goals go_ret
    all_goals exact ⟨ret_bool (by simp only [nvB]; simp_all), Own.base (by (repeat (first | (with_reducible exact hO) | (with_reducible apply Own.alloc) | (with_reducible apply Own.drew) | ((with_reducible apply Own.set_at); (focus (show _ ≤ _; omega))))))⟩

/- Chapter 5 in the model: valid voices. -/
open Go.RowKit

theorem tie_no1 {x : Nt} {l : List Nt} (h : nvB x = false) : tieB (x :: l) = false := by
  cases l <;> simp [tieB, h]
theorem tie_free {x : Nt} {l : List Nt} (h : nvB x = true) (hy : x.y = false) : tieB (x :: l) = tieB l := by
  cases l <;> simp [tieB, linkB, h, hy]
theorem tie_end {x : Nt} (hy : x.y = true) : tieB [x] = false := by simp [tieB, hy]
theorem tie_rest2 {x z : Nt} {l : List Nt} (hy : x.y = true) (hr : z.r = true) : tieB (x :: z :: l) = false := by simp [tieB, linkB, hy, hr]
theorem tie_tone {x z : Nt} {l : List Nt} (h : nvB x = true) (hy : x.y = true) (hr : z.r = false) : tieB (x :: z :: l) = (toneB x z && tieB (z :: l)) := by simp [tieB, linkB, h, hy, hr]

set_option maxHeartbeats 4000000 in
theorem voS_any (va : Value) (v : List Nt) (w : World) (ha : SlAt w va v.length 6 (vcC v)) (hn : v.length ≤ 1048576) :
    Calls Tryd.prog 56 #[va] w fun e w' => e = .returned (.bool (voB v)) ∧ Below w.heap.size w w' := by
  have hO := Own.start w
  have hF := True.intro
  obtain ⟨A, c, rfl, nb, hA⟩ := ha.open
  have HA := hid ha
  clear ha
  obtain ⟨n, hnl⟩ : ∃ n, v.length = n := ⟨_, rfl⟩
  have HN := hid hnl
  rw [hnl] at hn nb hA HA
  rw [hnl]
  clear hnl
  go_enter Tryd.func56, Tryd.ntmps56
  go_wp2
  go_loopw [3] (fun t wr => ∃ j : Nat, j ≤ n ∧ t = .int .i64 j ∧ Hid (tieB v = tieB (v.drop j)) ∧ Own w.heap.size (Below w.heap.size w) wr []) (fun t _ => n - (intOf t).toNat)
  case atStart => exact ⟨0, by omega, rfl, rfl, hO⟩
  case round =>
    clear hO
    obtain ⟨j, hj, rfl, HT, hO⟩ := hrel
    by_cases he : j = n
    · subst he
      have HE := hid (show voB v = decide ((j : Int) ≤ 60) by
        unfold voB
        rw [HT.out, ← HN.out, List.drop_length, HN.out, show tieB [] = true from rfl, Bool.true_and]
        congr 1
        rw [eq_iff_iff]; omega)
      go_wp2
      go_ret
      exact ⟨ret_bool HE.out.symm, hO.base⟩
    · have hlt : j < n := by omega
      have hlt2 : (j : Int) < n := by omega
      have j1 : (0 : Int) ≤ (j : Int) + 1 := by omega
      obtain ⟨b, off, rfl, hc1, hc2, hb⟩ := hA (by omega)
      have hjv : j < v.length := by have := HN.out; omega
      obtain ⟨x, hx⟩ : ∃ x, v[j]? = some x := ⟨_, List.getElem?_eq_getElem hjv⟩
      have hd : v.drop j = x :: v.drop (j + 1) := by
        rw [List.drop_eq_getElem_cons hjv]; congr 1
        rw [List.getElem?_eq_getElem hjv] at hx; exact Option.some.inj hx
      have HX := hid hx
      have HD := hid hd
      obtain ⟨d0, d1, d2, d3, d4, d5⟩ := noteAt (HA.out.below hO.base) hx
      have hF := True.intro
      clear he hx hd hjv
      cases hnv : nvB x
      · have HE := hid (show voB v = false by unfold voB; rw [HT.out, HD.out, tie_no1 hnv]; rfl)
        have HV := hid (fun W => nvS_any x W)
        rw [hnv] at HV
        go_wp2_with (go_at_call 86; apply own_at hO; (repeat (first | (with_reducible exact hO) | (with_reducible apply Own.alloc) | (with_reducible apply Own.drew) | ((with_reducible apply Own.set_at); (focus (show _ ≤ _; omega))))); have hG := hF; clear hF; clear hO; intro hO; refine own_call hO (fun hB => HV.out _) ?_; clear hO; intro w1 hO; (try simp only [World.size_alloc1, World.size_drew, Nat.reduceAdd] at hO); (try simp only [upd, updI, List.map_cons, List.map_nil, eq_self, if_true, if_false, reduceIte, Nat.add_eq_left, Nat.left_eq_add, Nat.reduceEqDiff, List.set_cons_zero, List.set_cons_succ, hG] at hO); clear hG; have hF := hO; (try simp only [Own, Item.Holds, apartI, CellsAt, Nat.reduceAdd, Nat.zero_add, List.mem_cons, List.not_mem_nil, or_false, forall_eq_or_imp, forall_eq, ne_eq, false_imp_iff, implies_true, and_true] at hF))
        go_ret
        exact ⟨ret_bool HE.out.symm, Own.base (by (repeat (first | (with_reducible exact hO) | (with_reducible apply Own.alloc) | (with_reducible apply Own.drew) | ((with_reducible apply Own.set_at); (focus (show _ ≤ _; omega))))))⟩
      · have HV := hid (fun W => nvS_any x W)
        rw [hnv] at HV
        have HNV := hid hnv
        clear hnv
        go_wp2_with (go_at_call 86; apply own_at hO; (repeat (first | (with_reducible exact hO) | (with_reducible apply Own.alloc) | (with_reducible apply Own.drew) | ((with_reducible apply Own.set_at); (focus (show _ ≤ _; omega))))); have hG := hF; clear hF; clear hO; intro hO; refine own_call hO (fun hB => HV.out _) ?_; clear hO; intro w1 hO; (try simp only [World.size_alloc1, World.size_drew, Nat.reduceAdd] at hO); (try simp only [upd, updI, List.map_cons, List.map_nil, eq_self, if_true, if_false, reduceIte, Nat.add_eq_left, Nat.left_eq_add, Nat.reduceEqDiff, List.set_cons_zero, List.set_cons_succ, hG] at hO); clear hG; have hF := hO; (try simp only [Own, Item.Holds, apartI, CellsAt, Nat.reduceAdd, Nat.zero_add, List.mem_cons, List.not_mem_nil, or_false, forall_eq_or_imp, forall_eq, ne_eq, false_imp_iff, implies_true, and_true] at hF))
        clear HV
        cases hy : x.y
        · have HE := hid (show tieB v = tieB (v.drop (j + 1)) by rw [HT.out, HD.out, tie_free HNV.out hy])
          have HY := hid hy
          apply own_code hO
          (repeat (first | (with_reducible exact hO) | (with_reducible apply Own.alloc) | (with_reducible apply Own.drew) | ((with_reducible apply Own.set_at); (focus (show _ ≤ _; omega)))))
          have hG := hF; clear hF; clear hO; intro hO
          (try simp only [World.size_alloc1, World.size_drew, Nat.reduceAdd] at hO); (try simp only [upd, updI, List.map_cons, List.map_nil, eq_self, if_true, if_false, reduceIte, Nat.add_eq_left, Nat.left_eq_add, Nat.reduceEqDiff, List.set_cons_zero, List.set_cons_succ, hG] at hO); clear hG
          refine region_own (X := fun _ => True) [] (by kernel_rfl) (hO) (trivial) (by first | exact XStab.true | exact XStab.rd | exact XStab.rdIf) ?_
          clear hO
          refine Sim.sP (i := 0) (d := some 16) (h := ?_)
          refine Sim.sP (i := 1) (d := some 17) (h := ?_)
          refine Sim.sP (i := 2) (d := some 18) (h := ?_)
          refine Sim.sP (i := 3) (d := some 19) (h := ?_)
          refine Sim.sO (i := 4) (d := some 20) (v := ?_) (hy := ?_) (h := ?_)
          rotate_left
          · first | refine Or.inl ⟨by rfl, fun w hO => ?_⟩ | (refine Or.inr ⟨by rfl, ?_⟩; with_reducible rfl)
            first | done | (have hF := hO; (try simp only [Own, Item.Holds, apartI, CellsAt, Nat.reduceAdd, Nat.zero_add, List.mem_cons, List.not_mem_nil, or_false, forall_eq_or_imp, forall_eq, ne_eq, false_imp_iff, implies_true, and_true] at hF); ((have ⟨d0, d1, d2, d3, d4, d5⟩ := noteAt (HA.out.below hO.base) HX.out; rw [HY.out] at d5)); refine Out.same ?_; go_simp; all_goals with_reducible rfl)
          refine Sim.sP (i := 5) (d := some 21) (h := ?_)
          refine Sim.sP (i := 6) (d := some 22) (h := ?_)
          refine Sim.sP (i := 7) (d := some 23) (h := ?_)
          refine Sim.sO (i := 8) (d := some 24) (v := ?_) (hy := ?_) (h := ?_)
          rotate_left
          · first | refine Or.inl ⟨by rfl, fun w hO => ?_⟩ | (refine Or.inr ⟨by rfl, ?_⟩; with_reducible rfl)
            first | done | (have hF := hO; (try simp only [Own, Item.Holds, apartI, CellsAt, Nat.reduceAdd, Nat.zero_add, List.mem_cons, List.not_mem_nil, or_false, forall_eq_or_imp, forall_eq, ne_eq, false_imp_iff, implies_true, and_true] at hF); ((have ⟨d0, d1, d2, d3, d4, d5⟩ := noteAt (HA.out.below hO.base) HX.out; rw [HY.out] at d5)); refine Out.same ?_; go_simp; all_goals with_reducible rfl)
          refine Sim.sP (i := 9) (d := some 25) (h := ?_)
          refine Sim.sP (i := 10) (d := some 26) (h := ?_)
          refine Sim.sP (i := 11) (d := some 27) (h := ?_)
          refine Sim.sP (i := 12) (d := some 28) (h := ?_)
          refine Sim.sP (i := 13) (d := some 29) (h := ?_)
          refine Sim.sP (i := 14) (d := some 30) (h := ?_)
          refine Sim.sP (i := 15) (d := some 31) (h := ?_)
          refine Sim.sP (i := 16) (d := some 32) (h := ?_)
          refine Sim.sO (i := 17) (d := some 33) (v := ?_) (hy := ?_) (h := ?_)
          rotate_left
          · first | refine Or.inl ⟨by rfl, fun w hO => ?_⟩ | (refine Or.inr ⟨by rfl, ?_⟩; with_reducible rfl)
            first | done | (have hF := hO; (try simp only [Own, Item.Holds, apartI, CellsAt, Nat.reduceAdd, Nat.zero_add, List.mem_cons, List.not_mem_nil, or_false, forall_eq_or_imp, forall_eq, ne_eq, false_imp_iff, implies_true, and_true] at hF); ((have ⟨d0, d1, d2, d3, d4, d5⟩ := noteAt (HA.out.below hO.base) HX.out; rw [HY.out] at d5)); refine Out.same ?_; go_simp; all_goals with_reducible rfl)
          refine Sim.sP (i := 18) (d := some 34) (h := ?_)
          refine Sim.sP (i := 19) (d := some 35) (h := ?_)
          refine Sim.sP (i := 20) (d := some 36) (h := ?_)
          refine Sim.sP (i := 21) (d := some 37) (h := ?_)
          refine Sim.sP (i := 22) (d := some 38) (h := ?_)
          refine Sim.sP (i := 23) (d := some 39) (h := ?_)
          refine Sim.sP (i := 24) (d := some 40) (h := ?_)
          refine Sim.sO (i := 25) (d := some 41) (v := ?_) (hy := ?_) (h := ?_)
          rotate_left
          · first | refine Or.inl ⟨by rfl, fun w hO => ?_⟩ | (refine Or.inr ⟨by rfl, ?_⟩; with_reducible rfl)
            first | done | (have hF := hO; (try simp only [Own, Item.Holds, apartI, CellsAt, Nat.reduceAdd, Nat.zero_add, List.mem_cons, List.not_mem_nil, or_false, forall_eq_or_imp, forall_eq, ne_eq, false_imp_iff, implies_true, and_true] at hF); ((have ⟨d0, d1, d2, d3, d4, d5⟩ := noteAt (HA.out.below hO.base) HX.out; rw [HY.out] at d5)); refine Out.same ?_; go_simp; all_goals with_reducible rfl)
          refine Sim.sP (i := 26) (d := some 42) (h := ?_)
          refine Sim.sP (i := 27) (d := some 43) (h := ?_)
          refine Sim.sP (i := 28) (d := some 44) (h := ?_)
          refine Sim.sP (i := 29) (d := some 45) (h := ?_)
          refine Sim.sO (i := 30) (d := some 46) (v := ?_) (hy := ?_) (h := ?_)
          rotate_left
          · first | refine Or.inl ⟨by rfl, fun w hO => ?_⟩ | (refine Or.inr ⟨by rfl, ?_⟩; with_reducible rfl)
            first | done | (have hF := hO; (try simp only [Own, Item.Holds, apartI, CellsAt, Nat.reduceAdd, Nat.zero_add, List.mem_cons, List.not_mem_nil, or_false, forall_eq_or_imp, forall_eq, ne_eq, false_imp_iff, implies_true, and_true] at hF); ((have ⟨d0, d1, d2, d3, d4, d5⟩ := noteAt (HA.out.below hO.base) HX.out; rw [HY.out] at d5)); refine Out.same ?_; go_simp; all_goals with_reducible rfl)
          refine Sim.sP (i := 31) (d := some 47) (h := ?_)
          refine Sim.sP (i := 32) (d := some 48) (h := ?_)
          refine Sim.sP (i := 33) (d := some 49) (h := ?_)
          refine Sim.done (by kernel_rfl) (fun w1 hO hX => ?_) _
          (try simp only [World.size_alloc1, World.size_drew, Nat.reduceAdd] at hO); (try simp only [upd, updI, List.map_cons, List.map_nil, eq_self, if_true, if_false, reduceIte, Nat.add_eq_left, Nat.left_eq_add, Nat.reduceEqDiff, List.set_cons_zero, List.set_cons_succ] at hO)
          have hF := hO; (try simp only [Own, Item.Holds, apartI, CellsAt, Nat.reduceAdd, Nat.zero_add, List.mem_cons, List.not_mem_nil, or_false, forall_eq_or_imp, forall_eq, ne_eq, false_imp_iff, implies_true, and_true] at hF)
          go_wp2
          go_roundw
          case rel => exact ⟨j + 1, by omega, by go_num, HE.out, hO⟩
          case measure => simp [intOf]; omega
        · have HY := hid hy
          by_cases hlast : j + 1 = n
          · have HE := hid (show voB v = false by
              unfold voB
              rw [HT.out, HD.out, show v.drop (j + 1) = [] by rw [List.drop_eq_nil_iff]; have := HN.out; omega, tie_end HY.out]; rfl)
            have e9 : ((j : Int) == (n : Int) - 1) = true := by rw [beq_iff_eq]; omega
            have w1 : IntKind.i64.wrap ((n : Int) - 1) = (n : Int) - 1 := IntWalk.i64_in _ (by omega)
            apply own_code hO
            (repeat (first | (with_reducible exact hO) | (with_reducible apply Own.alloc) | (with_reducible apply Own.drew) | ((with_reducible apply Own.set_at); (focus (show _ ≤ _; omega)))))
            have hG := hF; clear hF; clear hO; intro hO
            (try simp only [World.size_alloc1, World.size_drew, Nat.reduceAdd] at hO); (try simp only [upd, updI, List.map_cons, List.map_nil, eq_self, if_true, if_false, reduceIte, Nat.add_eq_left, Nat.left_eq_add, Nat.reduceEqDiff, List.set_cons_zero, List.set_cons_succ, hG] at hO); clear hG
            refine region_own (X := fun _ => True) [] (by kernel_rfl) (hO) (trivial) (by first | exact XStab.true | exact XStab.rd | exact XStab.rdIf) ?_
            clear hO
            refine Sim.sP (i := 0) (d := some 16) (h := ?_)
            refine Sim.sP (i := 1) (d := some 17) (h := ?_)
            refine Sim.sP (i := 2) (d := some 18) (h := ?_)
            refine Sim.sP (i := 3) (d := some 19) (h := ?_)
            refine Sim.sO (i := 4) (d := some 20) (v := ?_) (hy := ?_) (h := ?_)
            rotate_left
            · first | refine Or.inl ⟨by rfl, fun w hO => ?_⟩ | (refine Or.inr ⟨by rfl, ?_⟩; with_reducible rfl)
              first | done | (have hF := hO; (try simp only [Own, Item.Holds, apartI, CellsAt, Nat.reduceAdd, Nat.zero_add, List.mem_cons, List.not_mem_nil, or_false, forall_eq_or_imp, forall_eq, ne_eq, false_imp_iff, implies_true, and_true] at hF); ((have ⟨d0, d1, d2, d3, d4, d5⟩ := noteAt (HA.out.below hO.base) HX.out; rw [HY.out] at d5)); refine Out.same ?_; go_simp; all_goals with_reducible rfl)
            refine Sim.sP (i := 5) (d := some 21) (h := ?_)
            refine Sim.sP (i := 6) (d := some 22) (h := ?_)
            refine Sim.sP (i := 7) (d := some 23) (h := ?_)
            refine Sim.sO (i := 8) (d := some 24) (v := ?_) (hy := ?_) (h := ?_)
            rotate_left
            · first | refine Or.inl ⟨by rfl, fun w hO => ?_⟩ | (refine Or.inr ⟨by rfl, ?_⟩; with_reducible rfl)
              first | done | (have hF := hO; (try simp only [Own, Item.Holds, apartI, CellsAt, Nat.reduceAdd, Nat.zero_add, List.mem_cons, List.not_mem_nil, or_false, forall_eq_or_imp, forall_eq, ne_eq, false_imp_iff, implies_true, and_true] at hF); ((have ⟨d0, d1, d2, d3, d4, d5⟩ := noteAt (HA.out.below hO.base) HX.out; rw [HY.out] at d5)); refine Out.same ?_; go_simp; all_goals with_reducible rfl)
            refine Sim.sP (i := 9) (d := some 25) (h := ?_)
            refine Sim.sP (i := 10) (d := some 26) (h := ?_)
            refine Sim.sP (i := 11) (d := some 27) (h := ?_)
            refine Sim.sP (i := 12) (d := some 28) (h := ?_)
            refine Sim.sP (i := 13) (d := some 29) (h := ?_)
            refine Sim.sP (i := 14) (d := some 30) (h := ?_)
            refine Sim.sP (i := 15) (d := some 31) (h := ?_)
            refine Sim.sP (i := 16) (d := some 32) (h := ?_)
            refine Sim.sO (i := 17) (d := some 33) (v := ?_) (hy := ?_) (h := ?_)
            rotate_left
            · first | refine Or.inl ⟨by rfl, fun w hO => ?_⟩ | (refine Or.inr ⟨by rfl, ?_⟩; with_reducible rfl)
              first | done | (have hF := hO; (try simp only [Own, Item.Holds, apartI, CellsAt, Nat.reduceAdd, Nat.zero_add, List.mem_cons, List.not_mem_nil, or_false, forall_eq_or_imp, forall_eq, ne_eq, false_imp_iff, implies_true, and_true] at hF); ((have ⟨d0, d1, d2, d3, d4, d5⟩ := noteAt (HA.out.below hO.base) HX.out; rw [HY.out] at d5)); refine Out.same ?_; go_simp; all_goals with_reducible rfl)
            refine Sim.sP (i := 18) (d := some 34) (h := ?_)
            refine Sim.sP (i := 19) (d := some 35) (h := ?_)
            refine Sim.sP (i := 20) (d := some 36) (h := ?_)
            refine Sim.sP (i := 21) (d := some 37) (h := ?_)
            refine Sim.sP (i := 22) (d := some 38) (h := ?_)
            refine Sim.sP (i := 23) (d := some 39) (h := ?_)
            refine Sim.sP (i := 24) (d := some 40) (h := ?_)
            refine Sim.sO (i := 25) (d := some 41) (v := ?_) (hy := ?_) (h := ?_)
            rotate_left
            · first | refine Or.inl ⟨by rfl, fun w hO => ?_⟩ | (refine Or.inr ⟨by rfl, ?_⟩; with_reducible rfl)
              first | done | (have hF := hO; (try simp only [Own, Item.Holds, apartI, CellsAt, Nat.reduceAdd, Nat.zero_add, List.mem_cons, List.not_mem_nil, or_false, forall_eq_or_imp, forall_eq, ne_eq, false_imp_iff, implies_true, and_true] at hF); ((have ⟨d0, d1, d2, d3, d4, d5⟩ := noteAt (HA.out.below hO.base) HX.out; rw [HY.out] at d5)); refine Out.same ?_; go_simp; all_goals with_reducible rfl)
            refine Sim.sP (i := 26) (d := some 42) (h := ?_)
            refine Sim.sP (i := 27) (d := some 43) (h := ?_)
            refine Sim.sP (i := 28) (d := some 44) (h := ?_)
            refine Sim.sP (i := 29) (d := some 45) (h := ?_)
            refine Sim.sO (i := 30) (d := some 46) (v := ?_) (hy := ?_) (h := ?_)
            rotate_left
            · first | refine Or.inl ⟨by rfl, fun w hO => ?_⟩ | (refine Or.inr ⟨by rfl, ?_⟩; with_reducible rfl)
              first | done | (have hF := hO; (try simp only [Own, Item.Holds, apartI, CellsAt, Nat.reduceAdd, Nat.zero_add, List.mem_cons, List.not_mem_nil, or_false, forall_eq_or_imp, forall_eq, ne_eq, false_imp_iff, implies_true, and_true] at hF); ((have ⟨d0, d1, d2, d3, d4, d5⟩ := noteAt (HA.out.below hO.base) HX.out; rw [HY.out] at d5)); refine Out.same ?_; go_simp; all_goals with_reducible rfl)
            refine Sim.sP (i := 31) (d := some 47) (h := ?_)
            refine Sim.sP (i := 32) (d := some 48) (h := ?_)
            refine Sim.sP (i := 33) (d := some 49) (h := ?_)
            refine Sim.done (by kernel_rfl) (fun w1 hO hX => ?_) _
            (try simp only [World.size_alloc1, World.size_drew, Nat.reduceAdd] at hO); (try simp only [upd, updI, List.map_cons, List.map_nil, eq_self, if_true, if_false, reduceIte, Nat.add_eq_left, Nat.left_eq_add, Nat.reduceEqDiff, List.set_cons_zero, List.set_cons_succ] at hO)
            have hF := hO; (try simp only [Own, Item.Holds, apartI, CellsAt, Nat.reduceAdd, Nat.zero_add, List.mem_cons, List.not_mem_nil, or_false, forall_eq_or_imp, forall_eq, ne_eq, false_imp_iff, implies_true, and_true] at hF)
            go_wp2
            go_ret
            exact ⟨ret_bool HE.out.symm, hO.base⟩
          · have hl2 : j + 1 < n := by omega
            have hl3 : (j : Int) + 1 < n := by omega
            have hz0 : j + 1 < v.length := by have := HN.out; omega
            obtain ⟨z, hz⟩ : ∃ z, v[j + 1]? = some z := ⟨_, List.getElem?_eq_getElem hz0⟩
            have hd2 : v.drop (j + 1) = z :: v.drop (j + 1 + 1) := by
              rw [List.drop_eq_getElem_cons hz0]; congr 1
              rw [List.getElem?_eq_getElem hz0] at hz; exact Option.some.inj hz
            have HZ := hid hz
            have HD2 := hid hd2
            have e9 : ((j : Int) == (n : Int) - 1) = false := by rw [beq_eq_false_iff_ne]; omega
            have w1 : IntKind.i64.wrap ((n : Int) - 1) = (n : Int) - 1 := IntWalk.i64_in _ (by omega)
            have w2 : IntKind.i64.wrap ((j : Int) + 1) = (j : Int) + 1 := IntWalk.i64_in _ (by omega)
            clear hlast hz hd2 hz0
            cases hr : z.r
            · have HR := hid hr
              have HE := hid (show tieB v = (toneB x z && tieB (v.drop (j + 1))) by rw [HT.out, HD.out, HD2.out, tie_tone HNV.out HY.out hr])
              by_cases e1 : z.s = x.s
              · by_cases e2 : z.a = x.a
                · by_cases e3 : z.o = x.o
                  · have HE := hid (show tieB v = tieB (v.drop (j + 1)) by rw [HE.out, show toneB x z = true by unfold toneB; simp_all]; rfl)
                    apply own_code hO
                    (repeat (first | (with_reducible exact hO) | (with_reducible apply Own.alloc) | (with_reducible apply Own.drew) | ((with_reducible apply Own.set_at); (focus (show _ ≤ _; omega)))))
                    have hG := hF; clear hF; clear hO; intro hO
                    (try simp only [World.size_alloc1, World.size_drew, Nat.reduceAdd] at hO); (try simp only [upd, updI, List.map_cons, List.map_nil, eq_self, if_true, if_false, reduceIte, Nat.add_eq_left, Nat.left_eq_add, Nat.reduceEqDiff, List.set_cons_zero, List.set_cons_succ, hG] at hO); clear hG
                    refine region_own (X := fun _ => True) [] (by kernel_rfl) (hO) (trivial) (by first | exact XStab.true | exact XStab.rd | exact XStab.rdIf) ?_
                    clear hO
                    refine Sim.sP (i := 0) (d := some 16) (h := ?_)
                    refine Sim.sP (i := 1) (d := some 17) (h := ?_)
                    refine Sim.sP (i := 2) (d := some 18) (h := ?_)
                    refine Sim.sP (i := 3) (d := some 19) (h := ?_)
                    refine Sim.sO (i := 4) (d := some 20) (v := ?_) (hy := ?_) (h := ?_)
                    rotate_left
                    · first | refine Or.inl ⟨by rfl, fun w hO => ?_⟩ | (refine Or.inr ⟨by rfl, ?_⟩; with_reducible rfl)
                      first | done | (have hF := hO; (try simp only [Own, Item.Holds, apartI, CellsAt, Nat.reduceAdd, Nat.zero_add, List.mem_cons, List.not_mem_nil, or_false, forall_eq_or_imp, forall_eq, ne_eq, false_imp_iff, implies_true, and_true] at hF); ((have ⟨d0, d1, d2, d3, d4, d5⟩ := noteAt (HA.out.below hO.base) HX.out; have ⟨g0, g1, g2, g3, g4, g5⟩ := noteAt (HA.out.below hO.base) HZ.out; rw [HY.out] at d5; rw [HR.out] at g0)); refine Out.same ?_; go_simp; all_goals with_reducible rfl)
                    refine Sim.sP (i := 5) (d := some 21) (h := ?_)
                    refine Sim.sP (i := 6) (d := some 22) (h := ?_)
                    refine Sim.sP (i := 7) (d := some 23) (h := ?_)
                    refine Sim.sO (i := 8) (d := some 24) (v := ?_) (hy := ?_) (h := ?_)
                    rotate_left
                    · first | refine Or.inl ⟨by rfl, fun w hO => ?_⟩ | (refine Or.inr ⟨by rfl, ?_⟩; with_reducible rfl)
                      first | done | (have hF := hO; (try simp only [Own, Item.Holds, apartI, CellsAt, Nat.reduceAdd, Nat.zero_add, List.mem_cons, List.not_mem_nil, or_false, forall_eq_or_imp, forall_eq, ne_eq, false_imp_iff, implies_true, and_true] at hF); ((have ⟨d0, d1, d2, d3, d4, d5⟩ := noteAt (HA.out.below hO.base) HX.out; have ⟨g0, g1, g2, g3, g4, g5⟩ := noteAt (HA.out.below hO.base) HZ.out; rw [HY.out] at d5; rw [HR.out] at g0)); refine Out.same ?_; go_simp; all_goals with_reducible rfl)
                    refine Sim.sP (i := 9) (d := some 25) (h := ?_)
                    refine Sim.sP (i := 10) (d := some 26) (h := ?_)
                    refine Sim.sP (i := 11) (d := some 27) (h := ?_)
                    refine Sim.sP (i := 12) (d := some 28) (h := ?_)
                    refine Sim.sP (i := 13) (d := some 29) (h := ?_)
                    refine Sim.sP (i := 14) (d := some 30) (h := ?_)
                    refine Sim.sP (i := 15) (d := some 31) (h := ?_)
                    refine Sim.sP (i := 16) (d := some 32) (h := ?_)
                    refine Sim.sO (i := 17) (d := some 33) (v := ?_) (hy := ?_) (h := ?_)
                    rotate_left
                    · first | refine Or.inl ⟨by rfl, fun w hO => ?_⟩ | (refine Or.inr ⟨by rfl, ?_⟩; with_reducible rfl)
                      first | done | (have hF := hO; (try simp only [Own, Item.Holds, apartI, CellsAt, Nat.reduceAdd, Nat.zero_add, List.mem_cons, List.not_mem_nil, or_false, forall_eq_or_imp, forall_eq, ne_eq, false_imp_iff, implies_true, and_true] at hF); ((have ⟨d0, d1, d2, d3, d4, d5⟩ := noteAt (HA.out.below hO.base) HX.out; have ⟨g0, g1, g2, g3, g4, g5⟩ := noteAt (HA.out.below hO.base) HZ.out; rw [HY.out] at d5; rw [HR.out] at g0)); refine Out.same ?_; go_simp; all_goals with_reducible rfl)
                    refine Sim.sP (i := 18) (d := some 34) (h := ?_)
                    refine Sim.sP (i := 19) (d := some 35) (h := ?_)
                    refine Sim.sP (i := 20) (d := some 36) (h := ?_)
                    refine Sim.sP (i := 21) (d := some 37) (h := ?_)
                    refine Sim.sP (i := 22) (d := some 38) (h := ?_)
                    refine Sim.sP (i := 23) (d := some 39) (h := ?_)
                    refine Sim.sP (i := 24) (d := some 40) (h := ?_)
                    refine Sim.sO (i := 25) (d := some 41) (v := ?_) (hy := ?_) (h := ?_)
                    rotate_left
                    · first | refine Or.inl ⟨by rfl, fun w hO => ?_⟩ | (refine Or.inr ⟨by rfl, ?_⟩; with_reducible rfl)
                      first | done | (have hF := hO; (try simp only [Own, Item.Holds, apartI, CellsAt, Nat.reduceAdd, Nat.zero_add, List.mem_cons, List.not_mem_nil, or_false, forall_eq_or_imp, forall_eq, ne_eq, false_imp_iff, implies_true, and_true] at hF); ((have ⟨d0, d1, d2, d3, d4, d5⟩ := noteAt (HA.out.below hO.base) HX.out; have ⟨g0, g1, g2, g3, g4, g5⟩ := noteAt (HA.out.below hO.base) HZ.out; rw [HY.out] at d5; rw [HR.out] at g0)); refine Out.same ?_; go_simp; all_goals with_reducible rfl)
                    refine Sim.sP (i := 26) (d := some 42) (h := ?_)
                    refine Sim.sP (i := 27) (d := some 43) (h := ?_)
                    refine Sim.sP (i := 28) (d := some 44) (h := ?_)
                    refine Sim.sP (i := 29) (d := some 45) (h := ?_)
                    refine Sim.sO (i := 30) (d := some 46) (v := ?_) (hy := ?_) (h := ?_)
                    rotate_left
                    · first | refine Or.inl ⟨by rfl, fun w hO => ?_⟩ | (refine Or.inr ⟨by rfl, ?_⟩; with_reducible rfl)
                      first | done | (have hF := hO; (try simp only [Own, Item.Holds, apartI, CellsAt, Nat.reduceAdd, Nat.zero_add, List.mem_cons, List.not_mem_nil, or_false, forall_eq_or_imp, forall_eq, ne_eq, false_imp_iff, implies_true, and_true] at hF); ((have ⟨d0, d1, d2, d3, d4, d5⟩ := noteAt (HA.out.below hO.base) HX.out; have ⟨g0, g1, g2, g3, g4, g5⟩ := noteAt (HA.out.below hO.base) HZ.out; rw [HY.out] at d5; rw [HR.out] at g0)); refine Out.same ?_; go_simp; all_goals with_reducible rfl)
                    refine Sim.sP (i := 31) (d := some 47) (h := ?_)
                    refine Sim.sP (i := 32) (d := some 48) (h := ?_)
                    refine Sim.sP (i := 33) (d := some 49) (h := ?_)
                    refine Sim.done (by kernel_rfl) (fun w1 hO hX => ?_) _
                    (try simp only [World.size_alloc1, World.size_drew, Nat.reduceAdd] at hO); (try simp only [upd, updI, List.map_cons, List.map_nil, eq_self, if_true, if_false, reduceIte, Nat.add_eq_left, Nat.left_eq_add, Nat.reduceEqDiff, List.set_cons_zero, List.set_cons_succ] at hO)
                    have hF := hO; (try simp only [Own, Item.Holds, apartI, CellsAt, Nat.reduceAdd, Nat.zero_add, List.mem_cons, List.not_mem_nil, or_false, forall_eq_or_imp, forall_eq, ne_eq, false_imp_iff, implies_true, and_true] at hF)
                    go_wp2
                    go_roundw
                    case rel => exact ⟨j + 1, by omega, by go_num, HE.out, hO⟩
                    case measure => simp [intOf]; omega
                  · have HE := hid (show voB v = false by unfold voB; rw [HE.out, show toneB x z = false by unfold toneB; simp_all]; rfl)
                    apply own_code hO
                    (repeat (first | (with_reducible exact hO) | (with_reducible apply Own.alloc) | (with_reducible apply Own.drew) | ((with_reducible apply Own.set_at); (focus (show _ ≤ _; omega)))))
                    have hG := hF; clear hF; clear hO; intro hO
                    (try simp only [World.size_alloc1, World.size_drew, Nat.reduceAdd] at hO); (try simp only [upd, updI, List.map_cons, List.map_nil, eq_self, if_true, if_false, reduceIte, Nat.add_eq_left, Nat.left_eq_add, Nat.reduceEqDiff, List.set_cons_zero, List.set_cons_succ, hG] at hO); clear hG
                    refine region_own (X := fun _ => True) [] (by kernel_rfl) (hO) (trivial) (by first | exact XStab.true | exact XStab.rd | exact XStab.rdIf) ?_
                    clear hO
                    refine Sim.sP (i := 0) (d := some 16) (h := ?_)
                    refine Sim.sP (i := 1) (d := some 17) (h := ?_)
                    refine Sim.sP (i := 2) (d := some 18) (h := ?_)
                    refine Sim.sP (i := 3) (d := some 19) (h := ?_)
                    refine Sim.sO (i := 4) (d := some 20) (v := ?_) (hy := ?_) (h := ?_)
                    rotate_left
                    · first | refine Or.inl ⟨by rfl, fun w hO => ?_⟩ | (refine Or.inr ⟨by rfl, ?_⟩; with_reducible rfl)
                      first | done | (have hF := hO; (try simp only [Own, Item.Holds, apartI, CellsAt, Nat.reduceAdd, Nat.zero_add, List.mem_cons, List.not_mem_nil, or_false, forall_eq_or_imp, forall_eq, ne_eq, false_imp_iff, implies_true, and_true] at hF); ((have ⟨d0, d1, d2, d3, d4, d5⟩ := noteAt (HA.out.below hO.base) HX.out; have ⟨g0, g1, g2, g3, g4, g5⟩ := noteAt (HA.out.below hO.base) HZ.out; rw [HY.out] at d5; rw [HR.out] at g0)); refine Out.same ?_; go_simp; all_goals with_reducible rfl)
                    refine Sim.sP (i := 5) (d := some 21) (h := ?_)
                    refine Sim.sP (i := 6) (d := some 22) (h := ?_)
                    refine Sim.sP (i := 7) (d := some 23) (h := ?_)
                    refine Sim.sO (i := 8) (d := some 24) (v := ?_) (hy := ?_) (h := ?_)
                    rotate_left
                    · first | refine Or.inl ⟨by rfl, fun w hO => ?_⟩ | (refine Or.inr ⟨by rfl, ?_⟩; with_reducible rfl)
                      first | done | (have hF := hO; (try simp only [Own, Item.Holds, apartI, CellsAt, Nat.reduceAdd, Nat.zero_add, List.mem_cons, List.not_mem_nil, or_false, forall_eq_or_imp, forall_eq, ne_eq, false_imp_iff, implies_true, and_true] at hF); ((have ⟨d0, d1, d2, d3, d4, d5⟩ := noteAt (HA.out.below hO.base) HX.out; have ⟨g0, g1, g2, g3, g4, g5⟩ := noteAt (HA.out.below hO.base) HZ.out; rw [HY.out] at d5; rw [HR.out] at g0)); refine Out.same ?_; go_simp; all_goals with_reducible rfl)
                    refine Sim.sP (i := 9) (d := some 25) (h := ?_)
                    refine Sim.sP (i := 10) (d := some 26) (h := ?_)
                    refine Sim.sP (i := 11) (d := some 27) (h := ?_)
                    refine Sim.sP (i := 12) (d := some 28) (h := ?_)
                    refine Sim.sP (i := 13) (d := some 29) (h := ?_)
                    refine Sim.sP (i := 14) (d := some 30) (h := ?_)
                    refine Sim.sP (i := 15) (d := some 31) (h := ?_)
                    refine Sim.sP (i := 16) (d := some 32) (h := ?_)
                    refine Sim.sO (i := 17) (d := some 33) (v := ?_) (hy := ?_) (h := ?_)
                    rotate_left
                    · first | refine Or.inl ⟨by rfl, fun w hO => ?_⟩ | (refine Or.inr ⟨by rfl, ?_⟩; with_reducible rfl)
                      first | done | (have hF := hO; (try simp only [Own, Item.Holds, apartI, CellsAt, Nat.reduceAdd, Nat.zero_add, List.mem_cons, List.not_mem_nil, or_false, forall_eq_or_imp, forall_eq, ne_eq, false_imp_iff, implies_true, and_true] at hF); ((have ⟨d0, d1, d2, d3, d4, d5⟩ := noteAt (HA.out.below hO.base) HX.out; have ⟨g0, g1, g2, g3, g4, g5⟩ := noteAt (HA.out.below hO.base) HZ.out; rw [HY.out] at d5; rw [HR.out] at g0)); refine Out.same ?_; go_simp; all_goals with_reducible rfl)
                    refine Sim.sP (i := 18) (d := some 34) (h := ?_)
                    refine Sim.sP (i := 19) (d := some 35) (h := ?_)
                    refine Sim.sP (i := 20) (d := some 36) (h := ?_)
                    refine Sim.sP (i := 21) (d := some 37) (h := ?_)
                    refine Sim.sP (i := 22) (d := some 38) (h := ?_)
                    refine Sim.sP (i := 23) (d := some 39) (h := ?_)
                    refine Sim.sP (i := 24) (d := some 40) (h := ?_)
                    refine Sim.sO (i := 25) (d := some 41) (v := ?_) (hy := ?_) (h := ?_)
                    rotate_left
                    · first | refine Or.inl ⟨by rfl, fun w hO => ?_⟩ | (refine Or.inr ⟨by rfl, ?_⟩; with_reducible rfl)
                      first | done | (have hF := hO; (try simp only [Own, Item.Holds, apartI, CellsAt, Nat.reduceAdd, Nat.zero_add, List.mem_cons, List.not_mem_nil, or_false, forall_eq_or_imp, forall_eq, ne_eq, false_imp_iff, implies_true, and_true] at hF); ((have ⟨d0, d1, d2, d3, d4, d5⟩ := noteAt (HA.out.below hO.base) HX.out; have ⟨g0, g1, g2, g3, g4, g5⟩ := noteAt (HA.out.below hO.base) HZ.out; rw [HY.out] at d5; rw [HR.out] at g0)); refine Out.same ?_; go_simp; all_goals with_reducible rfl)
                    refine Sim.sP (i := 26) (d := some 42) (h := ?_)
                    refine Sim.sP (i := 27) (d := some 43) (h := ?_)
                    refine Sim.sP (i := 28) (d := some 44) (h := ?_)
                    refine Sim.sP (i := 29) (d := some 45) (h := ?_)
                    refine Sim.sO (i := 30) (d := some 46) (v := ?_) (hy := ?_) (h := ?_)
                    rotate_left
                    · first | refine Or.inl ⟨by rfl, fun w hO => ?_⟩ | (refine Or.inr ⟨by rfl, ?_⟩; with_reducible rfl)
                      first | done | (have hF := hO; (try simp only [Own, Item.Holds, apartI, CellsAt, Nat.reduceAdd, Nat.zero_add, List.mem_cons, List.not_mem_nil, or_false, forall_eq_or_imp, forall_eq, ne_eq, false_imp_iff, implies_true, and_true] at hF); ((have ⟨d0, d1, d2, d3, d4, d5⟩ := noteAt (HA.out.below hO.base) HX.out; have ⟨g0, g1, g2, g3, g4, g5⟩ := noteAt (HA.out.below hO.base) HZ.out; rw [HY.out] at d5; rw [HR.out] at g0)); refine Out.same ?_; go_simp; all_goals with_reducible rfl)
                    refine Sim.sP (i := 31) (d := some 47) (h := ?_)
                    refine Sim.sP (i := 32) (d := some 48) (h := ?_)
                    refine Sim.sP (i := 33) (d := some 49) (h := ?_)
                    refine Sim.done (by kernel_rfl) (fun w1 hO hX => ?_) _
                    (try simp only [World.size_alloc1, World.size_drew, Nat.reduceAdd] at hO); (try simp only [upd, updI, List.map_cons, List.map_nil, eq_self, if_true, if_false, reduceIte, Nat.add_eq_left, Nat.left_eq_add, Nat.reduceEqDiff, List.set_cons_zero, List.set_cons_succ] at hO)
                    have hF := hO; (try simp only [Own, Item.Holds, apartI, CellsAt, Nat.reduceAdd, Nat.zero_add, List.mem_cons, List.not_mem_nil, or_false, forall_eq_or_imp, forall_eq, ne_eq, false_imp_iff, implies_true, and_true] at hF)
                    go_wp2
                    go_ret
                    exact ⟨ret_bool HE.out.symm, hO.base⟩
                · have HE := hid (show voB v = false by unfold voB; rw [HE.out, show toneB x z = false by unfold toneB; simp_all]; rfl)
                  apply own_code hO
                  (repeat (first | (with_reducible exact hO) | (with_reducible apply Own.alloc) | (with_reducible apply Own.drew) | ((with_reducible apply Own.set_at); (focus (show _ ≤ _; omega)))))
                  have hG := hF; clear hF; clear hO; intro hO
                  (try simp only [World.size_alloc1, World.size_drew, Nat.reduceAdd] at hO); (try simp only [upd, updI, List.map_cons, List.map_nil, eq_self, if_true, if_false, reduceIte, Nat.add_eq_left, Nat.left_eq_add, Nat.reduceEqDiff, List.set_cons_zero, List.set_cons_succ, hG] at hO); clear hG
                  refine region_own (X := fun _ => True) [] (by kernel_rfl) (hO) (trivial) (by first | exact XStab.true | exact XStab.rd | exact XStab.rdIf) ?_
                  clear hO
                  refine Sim.sP (i := 0) (d := some 16) (h := ?_)
                  refine Sim.sP (i := 1) (d := some 17) (h := ?_)
                  refine Sim.sP (i := 2) (d := some 18) (h := ?_)
                  refine Sim.sP (i := 3) (d := some 19) (h := ?_)
                  refine Sim.sO (i := 4) (d := some 20) (v := ?_) (hy := ?_) (h := ?_)
                  rotate_left
                  · first | refine Or.inl ⟨by rfl, fun w hO => ?_⟩ | (refine Or.inr ⟨by rfl, ?_⟩; with_reducible rfl)
                    first | done | (have hF := hO; (try simp only [Own, Item.Holds, apartI, CellsAt, Nat.reduceAdd, Nat.zero_add, List.mem_cons, List.not_mem_nil, or_false, forall_eq_or_imp, forall_eq, ne_eq, false_imp_iff, implies_true, and_true] at hF); ((have ⟨d0, d1, d2, d3, d4, d5⟩ := noteAt (HA.out.below hO.base) HX.out; have ⟨g0, g1, g2, g3, g4, g5⟩ := noteAt (HA.out.below hO.base) HZ.out; rw [HY.out] at d5; rw [HR.out] at g0)); refine Out.same ?_; go_simp; all_goals with_reducible rfl)
                  refine Sim.sP (i := 5) (d := some 21) (h := ?_)
                  refine Sim.sP (i := 6) (d := some 22) (h := ?_)
                  refine Sim.sP (i := 7) (d := some 23) (h := ?_)
                  refine Sim.sO (i := 8) (d := some 24) (v := ?_) (hy := ?_) (h := ?_)
                  rotate_left
                  · first | refine Or.inl ⟨by rfl, fun w hO => ?_⟩ | (refine Or.inr ⟨by rfl, ?_⟩; with_reducible rfl)
                    first | done | (have hF := hO; (try simp only [Own, Item.Holds, apartI, CellsAt, Nat.reduceAdd, Nat.zero_add, List.mem_cons, List.not_mem_nil, or_false, forall_eq_or_imp, forall_eq, ne_eq, false_imp_iff, implies_true, and_true] at hF); ((have ⟨d0, d1, d2, d3, d4, d5⟩ := noteAt (HA.out.below hO.base) HX.out; have ⟨g0, g1, g2, g3, g4, g5⟩ := noteAt (HA.out.below hO.base) HZ.out; rw [HY.out] at d5; rw [HR.out] at g0)); refine Out.same ?_; go_simp; all_goals with_reducible rfl)
                  refine Sim.sP (i := 9) (d := some 25) (h := ?_)
                  refine Sim.sP (i := 10) (d := some 26) (h := ?_)
                  refine Sim.sP (i := 11) (d := some 27) (h := ?_)
                  refine Sim.sP (i := 12) (d := some 28) (h := ?_)
                  refine Sim.sP (i := 13) (d := some 29) (h := ?_)
                  refine Sim.sP (i := 14) (d := some 30) (h := ?_)
                  refine Sim.sP (i := 15) (d := some 31) (h := ?_)
                  refine Sim.sP (i := 16) (d := some 32) (h := ?_)
                  refine Sim.sO (i := 17) (d := some 33) (v := ?_) (hy := ?_) (h := ?_)
                  rotate_left
                  · first | refine Or.inl ⟨by rfl, fun w hO => ?_⟩ | (refine Or.inr ⟨by rfl, ?_⟩; with_reducible rfl)
                    first | done | (have hF := hO; (try simp only [Own, Item.Holds, apartI, CellsAt, Nat.reduceAdd, Nat.zero_add, List.mem_cons, List.not_mem_nil, or_false, forall_eq_or_imp, forall_eq, ne_eq, false_imp_iff, implies_true, and_true] at hF); ((have ⟨d0, d1, d2, d3, d4, d5⟩ := noteAt (HA.out.below hO.base) HX.out; have ⟨g0, g1, g2, g3, g4, g5⟩ := noteAt (HA.out.below hO.base) HZ.out; rw [HY.out] at d5; rw [HR.out] at g0)); refine Out.same ?_; go_simp; all_goals with_reducible rfl)
                  refine Sim.sP (i := 18) (d := some 34) (h := ?_)
                  refine Sim.sP (i := 19) (d := some 35) (h := ?_)
                  refine Sim.sP (i := 20) (d := some 36) (h := ?_)
                  refine Sim.sP (i := 21) (d := some 37) (h := ?_)
                  refine Sim.sP (i := 22) (d := some 38) (h := ?_)
                  refine Sim.sP (i := 23) (d := some 39) (h := ?_)
                  refine Sim.sP (i := 24) (d := some 40) (h := ?_)
                  refine Sim.sO (i := 25) (d := some 41) (v := ?_) (hy := ?_) (h := ?_)
                  rotate_left
                  · first | refine Or.inl ⟨by rfl, fun w hO => ?_⟩ | (refine Or.inr ⟨by rfl, ?_⟩; with_reducible rfl)
                    first | done | (have hF := hO; (try simp only [Own, Item.Holds, apartI, CellsAt, Nat.reduceAdd, Nat.zero_add, List.mem_cons, List.not_mem_nil, or_false, forall_eq_or_imp, forall_eq, ne_eq, false_imp_iff, implies_true, and_true] at hF); ((have ⟨d0, d1, d2, d3, d4, d5⟩ := noteAt (HA.out.below hO.base) HX.out; have ⟨g0, g1, g2, g3, g4, g5⟩ := noteAt (HA.out.below hO.base) HZ.out; rw [HY.out] at d5; rw [HR.out] at g0)); refine Out.same ?_; go_simp; all_goals with_reducible rfl)
                  refine Sim.sP (i := 26) (d := some 42) (h := ?_)
                  refine Sim.sP (i := 27) (d := some 43) (h := ?_)
                  refine Sim.sP (i := 28) (d := some 44) (h := ?_)
                  refine Sim.sP (i := 29) (d := some 45) (h := ?_)
                  refine Sim.sO (i := 30) (d := some 46) (v := ?_) (hy := ?_) (h := ?_)
                  rotate_left
                  · first | refine Or.inl ⟨by rfl, fun w hO => ?_⟩ | (refine Or.inr ⟨by rfl, ?_⟩; with_reducible rfl)
                    first | done | (have hF := hO; (try simp only [Own, Item.Holds, apartI, CellsAt, Nat.reduceAdd, Nat.zero_add, List.mem_cons, List.not_mem_nil, or_false, forall_eq_or_imp, forall_eq, ne_eq, false_imp_iff, implies_true, and_true] at hF); ((have ⟨d0, d1, d2, d3, d4, d5⟩ := noteAt (HA.out.below hO.base) HX.out; have ⟨g0, g1, g2, g3, g4, g5⟩ := noteAt (HA.out.below hO.base) HZ.out; rw [HY.out] at d5; rw [HR.out] at g0)); refine Out.same ?_; go_simp; all_goals with_reducible rfl)
                  refine Sim.sP (i := 31) (d := some 47) (h := ?_)
                  refine Sim.sP (i := 32) (d := some 48) (h := ?_)
                  refine Sim.sP (i := 33) (d := some 49) (h := ?_)
                  refine Sim.done (by kernel_rfl) (fun w1 hO hX => ?_) _
                  (try simp only [World.size_alloc1, World.size_drew, Nat.reduceAdd] at hO); (try simp only [upd, updI, List.map_cons, List.map_nil, eq_self, if_true, if_false, reduceIte, Nat.add_eq_left, Nat.left_eq_add, Nat.reduceEqDiff, List.set_cons_zero, List.set_cons_succ] at hO)
                  have hF := hO; (try simp only [Own, Item.Holds, apartI, CellsAt, Nat.reduceAdd, Nat.zero_add, List.mem_cons, List.not_mem_nil, or_false, forall_eq_or_imp, forall_eq, ne_eq, false_imp_iff, implies_true, and_true] at hF)
                  go_wp2
                  go_ret
                  exact ⟨ret_bool HE.out.symm, hO.base⟩
              · have HE := hid (show voB v = false by unfold voB; rw [HE.out, show toneB x z = false by unfold toneB; simp_all]; rfl)
                apply own_code hO
                (repeat (first | (with_reducible exact hO) | (with_reducible apply Own.alloc) | (with_reducible apply Own.drew) | ((with_reducible apply Own.set_at); (focus (show _ ≤ _; omega)))))
                have hG := hF; clear hF; clear hO; intro hO
                (try simp only [World.size_alloc1, World.size_drew, Nat.reduceAdd] at hO); (try simp only [upd, updI, List.map_cons, List.map_nil, eq_self, if_true, if_false, reduceIte, Nat.add_eq_left, Nat.left_eq_add, Nat.reduceEqDiff, List.set_cons_zero, List.set_cons_succ, hG] at hO); clear hG
                refine region_own (X := fun _ => True) [] (by kernel_rfl) (hO) (trivial) (by first | exact XStab.true | exact XStab.rd | exact XStab.rdIf) ?_
                clear hO
                refine Sim.sP (i := 0) (d := some 16) (h := ?_)
                refine Sim.sP (i := 1) (d := some 17) (h := ?_)
                refine Sim.sP (i := 2) (d := some 18) (h := ?_)
                refine Sim.sP (i := 3) (d := some 19) (h := ?_)
                refine Sim.sO (i := 4) (d := some 20) (v := ?_) (hy := ?_) (h := ?_)
                rotate_left
                · first | refine Or.inl ⟨by rfl, fun w hO => ?_⟩ | (refine Or.inr ⟨by rfl, ?_⟩; with_reducible rfl)
                  first | done | (have hF := hO; (try simp only [Own, Item.Holds, apartI, CellsAt, Nat.reduceAdd, Nat.zero_add, List.mem_cons, List.not_mem_nil, or_false, forall_eq_or_imp, forall_eq, ne_eq, false_imp_iff, implies_true, and_true] at hF); ((have ⟨d0, d1, d2, d3, d4, d5⟩ := noteAt (HA.out.below hO.base) HX.out; have ⟨g0, g1, g2, g3, g4, g5⟩ := noteAt (HA.out.below hO.base) HZ.out; rw [HY.out] at d5; rw [HR.out] at g0)); refine Out.same ?_; go_simp; all_goals with_reducible rfl)
                refine Sim.sP (i := 5) (d := some 21) (h := ?_)
                refine Sim.sP (i := 6) (d := some 22) (h := ?_)
                refine Sim.sP (i := 7) (d := some 23) (h := ?_)
                refine Sim.sO (i := 8) (d := some 24) (v := ?_) (hy := ?_) (h := ?_)
                rotate_left
                · first | refine Or.inl ⟨by rfl, fun w hO => ?_⟩ | (refine Or.inr ⟨by rfl, ?_⟩; with_reducible rfl)
                  first | done | (have hF := hO; (try simp only [Own, Item.Holds, apartI, CellsAt, Nat.reduceAdd, Nat.zero_add, List.mem_cons, List.not_mem_nil, or_false, forall_eq_or_imp, forall_eq, ne_eq, false_imp_iff, implies_true, and_true] at hF); ((have ⟨d0, d1, d2, d3, d4, d5⟩ := noteAt (HA.out.below hO.base) HX.out; have ⟨g0, g1, g2, g3, g4, g5⟩ := noteAt (HA.out.below hO.base) HZ.out; rw [HY.out] at d5; rw [HR.out] at g0)); refine Out.same ?_; go_simp; all_goals with_reducible rfl)
                refine Sim.sP (i := 9) (d := some 25) (h := ?_)
                refine Sim.sP (i := 10) (d := some 26) (h := ?_)
                refine Sim.sP (i := 11) (d := some 27) (h := ?_)
                refine Sim.sP (i := 12) (d := some 28) (h := ?_)
                refine Sim.sP (i := 13) (d := some 29) (h := ?_)
                refine Sim.sP (i := 14) (d := some 30) (h := ?_)
                refine Sim.sP (i := 15) (d := some 31) (h := ?_)
                refine Sim.sP (i := 16) (d := some 32) (h := ?_)
                refine Sim.sO (i := 17) (d := some 33) (v := ?_) (hy := ?_) (h := ?_)
                rotate_left
                · first | refine Or.inl ⟨by rfl, fun w hO => ?_⟩ | (refine Or.inr ⟨by rfl, ?_⟩; with_reducible rfl)
                  first | done | (have hF := hO; (try simp only [Own, Item.Holds, apartI, CellsAt, Nat.reduceAdd, Nat.zero_add, List.mem_cons, List.not_mem_nil, or_false, forall_eq_or_imp, forall_eq, ne_eq, false_imp_iff, implies_true, and_true] at hF); ((have ⟨d0, d1, d2, d3, d4, d5⟩ := noteAt (HA.out.below hO.base) HX.out; have ⟨g0, g1, g2, g3, g4, g5⟩ := noteAt (HA.out.below hO.base) HZ.out; rw [HY.out] at d5; rw [HR.out] at g0)); refine Out.same ?_; go_simp; all_goals with_reducible rfl)
                refine Sim.sP (i := 18) (d := some 34) (h := ?_)
                refine Sim.sP (i := 19) (d := some 35) (h := ?_)
                refine Sim.sP (i := 20) (d := some 36) (h := ?_)
                refine Sim.sP (i := 21) (d := some 37) (h := ?_)
                refine Sim.sP (i := 22) (d := some 38) (h := ?_)
                refine Sim.sP (i := 23) (d := some 39) (h := ?_)
                refine Sim.sP (i := 24) (d := some 40) (h := ?_)
                refine Sim.sO (i := 25) (d := some 41) (v := ?_) (hy := ?_) (h := ?_)
                rotate_left
                · first | refine Or.inl ⟨by rfl, fun w hO => ?_⟩ | (refine Or.inr ⟨by rfl, ?_⟩; with_reducible rfl)
                  first | done | (have hF := hO; (try simp only [Own, Item.Holds, apartI, CellsAt, Nat.reduceAdd, Nat.zero_add, List.mem_cons, List.not_mem_nil, or_false, forall_eq_or_imp, forall_eq, ne_eq, false_imp_iff, implies_true, and_true] at hF); ((have ⟨d0, d1, d2, d3, d4, d5⟩ := noteAt (HA.out.below hO.base) HX.out; have ⟨g0, g1, g2, g3, g4, g5⟩ := noteAt (HA.out.below hO.base) HZ.out; rw [HY.out] at d5; rw [HR.out] at g0)); refine Out.same ?_; go_simp; all_goals with_reducible rfl)
                refine Sim.sP (i := 26) (d := some 42) (h := ?_)
                refine Sim.sP (i := 27) (d := some 43) (h := ?_)
                refine Sim.sP (i := 28) (d := some 44) (h := ?_)
                refine Sim.sP (i := 29) (d := some 45) (h := ?_)
                refine Sim.sO (i := 30) (d := some 46) (v := ?_) (hy := ?_) (h := ?_)
                rotate_left
                · first | refine Or.inl ⟨by rfl, fun w hO => ?_⟩ | (refine Or.inr ⟨by rfl, ?_⟩; with_reducible rfl)
                  first | done | (have hF := hO; (try simp only [Own, Item.Holds, apartI, CellsAt, Nat.reduceAdd, Nat.zero_add, List.mem_cons, List.not_mem_nil, or_false, forall_eq_or_imp, forall_eq, ne_eq, false_imp_iff, implies_true, and_true] at hF); ((have ⟨d0, d1, d2, d3, d4, d5⟩ := noteAt (HA.out.below hO.base) HX.out; have ⟨g0, g1, g2, g3, g4, g5⟩ := noteAt (HA.out.below hO.base) HZ.out; rw [HY.out] at d5; rw [HR.out] at g0)); refine Out.same ?_; go_simp; all_goals with_reducible rfl)
                refine Sim.sP (i := 31) (d := some 47) (h := ?_)
                refine Sim.sP (i := 32) (d := some 48) (h := ?_)
                refine Sim.sP (i := 33) (d := some 49) (h := ?_)
                refine Sim.done (by kernel_rfl) (fun w1 hO hX => ?_) _
                (try simp only [World.size_alloc1, World.size_drew, Nat.reduceAdd] at hO); (try simp only [upd, updI, List.map_cons, List.map_nil, eq_self, if_true, if_false, reduceIte, Nat.add_eq_left, Nat.left_eq_add, Nat.reduceEqDiff, List.set_cons_zero, List.set_cons_succ] at hO)
                have hF := hO; (try simp only [Own, Item.Holds, apartI, CellsAt, Nat.reduceAdd, Nat.zero_add, List.mem_cons, List.not_mem_nil, or_false, forall_eq_or_imp, forall_eq, ne_eq, false_imp_iff, implies_true, and_true] at hF)
                go_wp2
                go_ret
                exact ⟨ret_bool HE.out.symm, hO.base⟩
            · have HR := hid hr
              have HE := hid (show voB v = false by unfold voB; rw [HT.out, HD.out, HD2.out, tie_rest2 HY.out hr]; rfl)
              apply own_code hO
              (repeat (first | (with_reducible exact hO) | (with_reducible apply Own.alloc) | (with_reducible apply Own.drew) | ((with_reducible apply Own.set_at); (focus (show _ ≤ _; omega)))))
              have hG := hF; clear hF; clear hO; intro hO
              (try simp only [World.size_alloc1, World.size_drew, Nat.reduceAdd] at hO); (try simp only [upd, updI, List.map_cons, List.map_nil, eq_self, if_true, if_false, reduceIte, Nat.add_eq_left, Nat.left_eq_add, Nat.reduceEqDiff, List.set_cons_zero, List.set_cons_succ, hG] at hO); clear hG
              refine region_own (X := fun _ => True) [] (by kernel_rfl) (hO) (trivial) (by first | exact XStab.true | exact XStab.rd | exact XStab.rdIf) ?_
              clear hO
              refine Sim.sP (i := 0) (d := some 16) (h := ?_)
              refine Sim.sP (i := 1) (d := some 17) (h := ?_)
              refine Sim.sP (i := 2) (d := some 18) (h := ?_)
              refine Sim.sP (i := 3) (d := some 19) (h := ?_)
              refine Sim.sO (i := 4) (d := some 20) (v := ?_) (hy := ?_) (h := ?_)
              rotate_left
              · first | refine Or.inl ⟨by rfl, fun w hO => ?_⟩ | (refine Or.inr ⟨by rfl, ?_⟩; with_reducible rfl)
                first | done | (have hF := hO; (try simp only [Own, Item.Holds, apartI, CellsAt, Nat.reduceAdd, Nat.zero_add, List.mem_cons, List.not_mem_nil, or_false, forall_eq_or_imp, forall_eq, ne_eq, false_imp_iff, implies_true, and_true] at hF); ((have ⟨d0, d1, d2, d3, d4, d5⟩ := noteAt (HA.out.below hO.base) HX.out; have ⟨g0, g1, g2, g3, g4, g5⟩ := noteAt (HA.out.below hO.base) HZ.out; rw [HY.out] at d5; rw [HR.out] at g0)); refine Out.same ?_; go_simp; all_goals with_reducible rfl)
              refine Sim.sP (i := 5) (d := some 21) (h := ?_)
              refine Sim.sP (i := 6) (d := some 22) (h := ?_)
              refine Sim.sP (i := 7) (d := some 23) (h := ?_)
              refine Sim.sO (i := 8) (d := some 24) (v := ?_) (hy := ?_) (h := ?_)
              rotate_left
              · first | refine Or.inl ⟨by rfl, fun w hO => ?_⟩ | (refine Or.inr ⟨by rfl, ?_⟩; with_reducible rfl)
                first | done | (have hF := hO; (try simp only [Own, Item.Holds, apartI, CellsAt, Nat.reduceAdd, Nat.zero_add, List.mem_cons, List.not_mem_nil, or_false, forall_eq_or_imp, forall_eq, ne_eq, false_imp_iff, implies_true, and_true] at hF); ((have ⟨d0, d1, d2, d3, d4, d5⟩ := noteAt (HA.out.below hO.base) HX.out; have ⟨g0, g1, g2, g3, g4, g5⟩ := noteAt (HA.out.below hO.base) HZ.out; rw [HY.out] at d5; rw [HR.out] at g0)); refine Out.same ?_; go_simp; all_goals with_reducible rfl)
              refine Sim.sP (i := 9) (d := some 25) (h := ?_)
              refine Sim.sP (i := 10) (d := some 26) (h := ?_)
              refine Sim.sP (i := 11) (d := some 27) (h := ?_)
              refine Sim.sP (i := 12) (d := some 28) (h := ?_)
              refine Sim.sP (i := 13) (d := some 29) (h := ?_)
              refine Sim.sP (i := 14) (d := some 30) (h := ?_)
              refine Sim.sP (i := 15) (d := some 31) (h := ?_)
              refine Sim.sP (i := 16) (d := some 32) (h := ?_)
              refine Sim.sO (i := 17) (d := some 33) (v := ?_) (hy := ?_) (h := ?_)
              rotate_left
              · first | refine Or.inl ⟨by rfl, fun w hO => ?_⟩ | (refine Or.inr ⟨by rfl, ?_⟩; with_reducible rfl)
                first | done | (have hF := hO; (try simp only [Own, Item.Holds, apartI, CellsAt, Nat.reduceAdd, Nat.zero_add, List.mem_cons, List.not_mem_nil, or_false, forall_eq_or_imp, forall_eq, ne_eq, false_imp_iff, implies_true, and_true] at hF); ((have ⟨d0, d1, d2, d3, d4, d5⟩ := noteAt (HA.out.below hO.base) HX.out; have ⟨g0, g1, g2, g3, g4, g5⟩ := noteAt (HA.out.below hO.base) HZ.out; rw [HY.out] at d5; rw [HR.out] at g0)); refine Out.same ?_; go_simp; all_goals with_reducible rfl)
              refine Sim.sP (i := 18) (d := some 34) (h := ?_)
              refine Sim.sP (i := 19) (d := some 35) (h := ?_)
              refine Sim.sP (i := 20) (d := some 36) (h := ?_)
              refine Sim.sP (i := 21) (d := some 37) (h := ?_)
              refine Sim.sP (i := 22) (d := some 38) (h := ?_)
              refine Sim.sP (i := 23) (d := some 39) (h := ?_)
              refine Sim.sP (i := 24) (d := some 40) (h := ?_)
              refine Sim.sO (i := 25) (d := some 41) (v := ?_) (hy := ?_) (h := ?_)
              rotate_left
              · first | refine Or.inl ⟨by rfl, fun w hO => ?_⟩ | (refine Or.inr ⟨by rfl, ?_⟩; with_reducible rfl)
                first | done | (have hF := hO; (try simp only [Own, Item.Holds, apartI, CellsAt, Nat.reduceAdd, Nat.zero_add, List.mem_cons, List.not_mem_nil, or_false, forall_eq_or_imp, forall_eq, ne_eq, false_imp_iff, implies_true, and_true] at hF); ((have ⟨d0, d1, d2, d3, d4, d5⟩ := noteAt (HA.out.below hO.base) HX.out; have ⟨g0, g1, g2, g3, g4, g5⟩ := noteAt (HA.out.below hO.base) HZ.out; rw [HY.out] at d5; rw [HR.out] at g0)); refine Out.same ?_; go_simp; all_goals with_reducible rfl)
              refine Sim.sP (i := 26) (d := some 42) (h := ?_)
              refine Sim.sP (i := 27) (d := some 43) (h := ?_)
              refine Sim.sP (i := 28) (d := some 44) (h := ?_)
              refine Sim.sP (i := 29) (d := some 45) (h := ?_)
              refine Sim.sO (i := 30) (d := some 46) (v := ?_) (hy := ?_) (h := ?_)
              rotate_left
              · first | refine Or.inl ⟨by rfl, fun w hO => ?_⟩ | (refine Or.inr ⟨by rfl, ?_⟩; with_reducible rfl)
                first | done | (have hF := hO; (try simp only [Own, Item.Holds, apartI, CellsAt, Nat.reduceAdd, Nat.zero_add, List.mem_cons, List.not_mem_nil, or_false, forall_eq_or_imp, forall_eq, ne_eq, false_imp_iff, implies_true, and_true] at hF); ((have ⟨d0, d1, d2, d3, d4, d5⟩ := noteAt (HA.out.below hO.base) HX.out; have ⟨g0, g1, g2, g3, g4, g5⟩ := noteAt (HA.out.below hO.base) HZ.out; rw [HY.out] at d5; rw [HR.out] at g0)); refine Out.same ?_; go_simp; all_goals with_reducible rfl)
              refine Sim.sP (i := 31) (d := some 47) (h := ?_)
              refine Sim.sP (i := 32) (d := some 48) (h := ?_)
              refine Sim.sP (i := 33) (d := some 49) (h := ?_)
              refine Sim.done (by kernel_rfl) (fun w1 hO hX => ?_) _
              (try simp only [World.size_alloc1, World.size_drew, Nat.reduceAdd] at hO); (try simp only [upd, updI, List.map_cons, List.map_nil, eq_self, if_true, if_false, reduceIte, Nat.add_eq_left, Nat.left_eq_add, Nat.reduceEqDiff, List.set_cons_zero, List.set_cons_succ] at hO)
              have hF := hO; (try simp only [Own, Item.Holds, apartI, CellsAt, Nat.reduceAdd, Nat.zero_add, List.mem_cons, List.not_mem_nil, or_false, forall_eq_or_imp, forall_eq, ne_eq, false_imp_iff, implies_true, and_true] at hF)
              go_wp2
              go_ret
              exact ⟨ret_bool HE.out.symm, hO.base⟩
end Go.Proofs.YtcgcnkddgihkpaaDoor
