/- Chapter 13 in the model: figures. -/
import Derived.Test.YtfdglkiehkilnaaDoorWalksPt
import Derived.Lib.SmallJoins
import Derived.Test.YtfdglkiehkilnaaDoorWalks3S
import Derived.Test.YtfdglkiehkilnaaDoorWalks1
import Derived.Test.YtfdglkiehkilnaaDoorPure13
import Derived.Test.YtfdglkiehkilnaaDoorWalks12S
import Derived.Test.YtfdglkiehkilnaaDoorIntC
import Derived.Test.YtfdglkiehkilnaaDoorRegionD
namespace Go.Proofs.YtfdglkiehkilnaaDoor
set_option linter.unusedSimpArgs false
set_option linter.unusedVariables false
set_option maxRecDepth 8000
open Go.RowKit

theorem plS_is {x : Pt} {z : Int} (h : plZ x = z) (W : World) :
    Calls Tryd.prog 125 #[.agg #[.int .i64 x.s, .int .i64 x.a, .int .i64 x.o]] W fun e w' => e = .returned (.int .i64 z) ∧ Below W.heap.size W w' := by
  subst h; exact placeS_any x.s x.a x.o W
theorem alS_is {f s z : Int} (h0 : 0 ≤ s) (h6 : s ≤ 6) (h : altZ f s = z) (W : World) :
    Calls Tryd.prog 88 #[.int .i64 f, .int .i64 s] W fun e w' => e = .returned (.int .i64 z) ∧ Below W.heap.size W w' := by
  subst h; exact altS_any f s W h0 h6
theorem ft_take {f : Int} {x : Pt} {us : List Int} {j : Nat} {k s a o : Int} (hk : us[j]? = some k) (h : ftT f x k = ⟨s, a, o⟩) : pcC (x :: (us.take j).map (ftT f x)) ++ [.int .i64 s, .int .i64 a, .int .i64 o] = pcC (x :: (us.take (j + 1)).map (ftT f x)) := by
  rw [List.take_add_one, hk, List.map_append]
  show _ = pcC ((x :: (us.take j).map (ftT f x)) ++ [ftT f x k])
  rw [pcC_append, h]
  rfl
theorem take_ok {f : Int} {x : Pt} {us : List Int} {j : Nat} {k : Int} (hk : us[j]? = some k) (h : ∀ k ∈ us.take j, pvP (ftT f x k) = true) (hp : pvP (ftT f x k) = true) : ∀ k ∈ us.take (j + 1), pvP (ftT f x k) = true := by
  intro m hm
  rw [List.take_add_one, hk] at hm
  rcases List.mem_append.1 hm with hm | hm
  · exact h m hm
  · simp at hm; subst hm; exact hp

set_option maxRecDepth 20000 in
set_option maxHeartbeats 8000000 in
theorem ftS_5 (f : Int) (x : Pt) (w : World) :
    Calls Tryd.prog 110 #[.int .i64 f, .agg #[.int .i64 x.s, .int .i64 x.a, .int .i64 x.o], .int .i64 5] w (RowOut 29 3 (ftL f x 5).length (pcC (ftL f x 5)) w) := by
  have hO := Own.start w
  have hF := True.intro
  obtain ⟨i0, hi, hz0, hz1, hz2⟩ := info_parts infoPi
  have hg : fgL 5 = [2, 4] := rfl
  cases h1 : inB f (-7) 7
  · have HE := hid (ft_no (f := f) (x := x) (g := 5) (fun h => by rw [show keyB f = false from h1] at h; cases h.1))
    rw [HE.out]
    have HI := hid (fun W => in_is W h1)
    clear hg h1
    go_enter Tryd.func110, Tryd.ntmps110
    go_wp2_with (go_at_call 48; apply own_at hO; (repeat (first | (with_reducible exact hO) | (with_reducible apply Own.alloc) | (with_reducible apply Own.drew) | ((with_reducible apply Own.set_at); (focus (show _ ≤ _; omega))))); have hG := hF; clear hF; clear hO; intro hO; refine own_call hO (fun hB => HI.out _) ?_; clear hO; intro w1 hO; (try simp only [World.size_alloc1, World.size_drew, Nat.reduceAdd] at hO); (try simp only [upd, updI, List.map_cons, List.map_nil, eq_self, if_true, if_false, reduceIte, Nat.add_eq_left, Nat.left_eq_add, Nat.reduceEqDiff, List.set_cons_zero, List.set_cons_succ, hG] at hO); clear hG; have hF := hO; (try simp only [Own, Item.Holds, apartI, CellsAt, Nat.reduceAdd, Nat.zero_add, List.mem_cons, List.not_mem_nil, or_false, forall_eq_or_imp, forall_eq, ne_eq, false_imp_iff, implies_true, and_true] at hF))
    go_ret
    exact RowOut.mk (Own.allocRow (e := 29) (cur := #[]) (k := 0) (cap := 0) 3 (by (repeat (first | (with_reducible exact hO) | (with_reducible apply Own.alloc) | (with_reducible apply Own.drew) | ((with_reducible apply Own.set_at); (focus (show _ ≤ _; omega)))))) (by omega) (by unfold maxLen; omega) rfl)
  · have HI := hid (fun W => in_is W h1)
    cases h2 : pvP x
    · have HE := hid (ft_no (f := f) (x := x) (g := 5) (fun h => by rw [h2] at h; cases h.2.1))
      rw [HE.out]
      have HV := hid (fun W => pvS_is W (show pvB x.s x.a x.o = false from h2))
      clear hg h1 h2
      go_enter Tryd.func110, Tryd.ntmps110
      go_wp2_with (first | (go_at_call 48; apply own_at hO; (repeat (first | (with_reducible exact hO) | (with_reducible apply Own.alloc) | (with_reducible apply Own.drew) | ((with_reducible apply Own.set_at); (focus (show _ ≤ _; omega))))); have hG := hF; clear hF; clear hO; intro hO; refine own_call hO (fun hB => HI.out _) ?_; clear hO; intro w1 hO; (try simp only [World.size_alloc1, World.size_drew, Nat.reduceAdd] at hO); (try simp only [upd, updI, List.map_cons, List.map_nil, eq_self, if_true, if_false, reduceIte, Nat.add_eq_left, Nat.left_eq_add, Nat.reduceEqDiff, List.set_cons_zero, List.set_cons_succ, hG] at hO); clear hG; have hF := hO; (try simp only [Own, Item.Holds, apartI, CellsAt, Nat.reduceAdd, Nat.zero_add, List.mem_cons, List.not_mem_nil, or_false, forall_eq_or_imp, forall_eq, ne_eq, false_imp_iff, implies_true, and_true] at hF)) | (go_at_call 52; apply own_at hO; (repeat (first | (with_reducible exact hO) | (with_reducible apply Own.alloc) | (with_reducible apply Own.drew) | ((with_reducible apply Own.set_at); (focus (show _ ≤ _; omega))))); have hG := hF; clear hF; clear hO; intro hO; refine own_call hO (fun hB => HV.out _) ?_; clear hO; intro w1 hO; (try simp only [World.size_alloc1, World.size_drew, Nat.reduceAdd] at hO); (try simp only [upd, updI, List.map_cons, List.map_nil, eq_self, if_true, if_false, reduceIte, Nat.add_eq_left, Nat.left_eq_add, Nat.reduceEqDiff, List.set_cons_zero, List.set_cons_succ, hG] at hO); clear hG; have hF := hO; (try simp only [Own, Item.Holds, apartI, CellsAt, Nat.reduceAdd, Nat.zero_add, List.mem_cons, List.not_mem_nil, or_false, forall_eq_or_imp, forall_eq, ne_eq, false_imp_iff, implies_true, and_true] at hF)))
      go_ret
      exact RowOut.mk (Own.allocRow (e := 29) (cur := #[]) (k := 0) (cap := 0) 3 (by (repeat (first | (with_reducible exact hO) | (with_reducible apply Own.alloc) | (with_reducible apply Own.drew) | ((with_reducible apply Own.set_at); (focus (show _ ≤ _; omega)))))) (by omega) (by unfold maxLen; omega) rfl)
    · have HV := hid (fun W => pvS_is W (show pvB x.s x.a x.o = true from h2))
      have HY := hid (fun (h4 : ∀ k ∈ fgL 5, pvP (ftT f x k) = true) => ft_yes (f := f) (x := x) (g := 5) h1 h2 (by rw [hg]; simp) h4)
      have HN := hid (fun (h4 : ¬ ∀ k ∈ fgL 5, pvP (ftT f x k) = true) => ft_no (f := f) (x := x) (g := 5) (fun h => h4 h.2.2.2))
      rw [hg] at HY HN
      obtain ⟨_, P0, P1⟩ := plZ_of h2
      obtain ⟨P, hP⟩ : ∃ P, plZ x = P := ⟨_, rfl⟩
      rw [hP] at P0 P1
      have HP := hid (fun W => plS_is hP W)
      have HT := hid (show ∀ k, ftT f x k = plP f (P + k) from fun k => by unfold ftT; rw [hP])
      clear hg h1 h2 hP
      go_enter Tryd.func110, Tryd.ntmps110
      go_wp2_with fail
      have hO1 := Own.allocRow (e := 29) (cur := #[.int .i64 x.s, .int .i64 x.a, .int .i64 x.o]) (k := 1) (cap := 1) 3 (Own.alloc (t := 3) (vs := [.int .i64 2, .int .i64 4]) (Own.alloc (t := 3) (vs := []) (Own.alloc (t := 29) (vs := [.int .i64 x.s, .int .i64 x.a, .int .i64 x.o]) hO))) (Nat.le_refl _) (by unfold maxLen; omega) rfl
      clear hO
      have hO := hO1
      clear hO1
      go_wp2_with (first | (go_at_call 48; apply own_at hO; (repeat (first | (with_reducible exact hO) | (with_reducible apply Own.alloc) | (with_reducible apply Own.drew) | ((with_reducible apply Own.set_at); (focus (show _ ≤ _; omega))))); have hG := hF; clear hF; clear hO; intro hO; refine own_call hO (fun hB => HI.out _) ?_; clear hO; intro w1 hO; (try simp only [World.size_alloc1, World.size_drew, Nat.reduceAdd] at hO); (try simp only [upd, updI, List.map_cons, List.map_nil, eq_self, if_true, if_false, reduceIte, Nat.add_eq_left, Nat.left_eq_add, Nat.reduceEqDiff, List.set_cons_zero, List.set_cons_succ, hG] at hO); clear hG; have hF := hO; (try simp only [Own, Item.Holds, apartI, CellsAt, Nat.reduceAdd, Nat.zero_add, List.mem_cons, List.not_mem_nil, or_false, forall_eq_or_imp, forall_eq, ne_eq, false_imp_iff, implies_true, and_true] at hF)) | (go_at_call 52; apply own_at hO; (repeat (first | (with_reducible exact hO) | (with_reducible apply Own.alloc) | (with_reducible apply Own.drew) | ((with_reducible apply Own.set_at); (focus (show _ ≤ _; omega))))); have hG := hF; clear hF; clear hO; intro hO; refine own_call hO (fun hB => HV.out _) ?_; clear hO; intro w1 hO; (try simp only [World.size_alloc1, World.size_drew, Nat.reduceAdd] at hO); (try simp only [upd, updI, List.map_cons, List.map_nil, eq_self, if_true, if_false, reduceIte, Nat.add_eq_left, Nat.left_eq_add, Nat.reduceEqDiff, List.set_cons_zero, List.set_cons_succ, hG] at hO); clear hG; have hF := hO; (try simp only [Own, Item.Holds, apartI, CellsAt, Nat.reduceAdd, Nat.zero_add, List.mem_cons, List.not_mem_nil, or_false, forall_eq_or_imp, forall_eq, ne_eq, false_imp_iff, implies_true, and_true] at hF)))
      go_loopw [8, 9] (fun u t wr => ∃ j : Nat, j ≤ 2 ∧ t = .int .i64 j ∧ Hid (∀ k ∈ [2, 4].take j, pvP (ftT f x k) = true) ∧ Own w.heap.size (Below w.heap.size w) wr [.row 29 3 u (j + 1) (pcC (x :: ([2, 4].take j).map (ftT f x))), .blk (w.heap.size + 1 + 1) [.int .i64 2, .int .i64 4], .blk (w.heap.size + 1) [], .blk w.heap.size [.int .i64 x.s, .int .i64 x.a, .int .i64 x.o]]) (fun _ t _ => 2 - (intOf t).toNat)
      case atStart => exact ⟨0, by omega, rfl, fun k hk => by simp at hk, hO⟩
      case round =>
        clear hO hF
        obtain ⟨j, hj, rfl, hok, hO⟩ := hrel
        have hF := hO; (try simp only [Own, Item.Holds, apartI, CellsAt, Nat.reduceAdd, Nat.zero_add, List.mem_cons, List.not_mem_nil, or_false, forall_eq_or_imp, forall_eq, ne_eq, false_imp_iff, implies_true, and_true] at hF)
        by_cases he : j = 2
        · subst he
          have HE := hid (show ftL f x 5 = x :: ([2, 4].take 2).map (ftT f x) ∧ (x :: ([2, 4].take 2).map (ftT f x)).length = 2 + 1 from ⟨HY.out hok.out, rfl⟩)
          go_wp2_with fail
          go_ret
          rw [HE.out.1, HE.out.2]
          exact RowOut.mk hO
        · have hjl : j < 2 := by omega
          have hjl2 : (j : Int) < 2 := by omega
          have hj0 : (0 : Int) ≤ (j : Int) := by omega
          obtain ⟨k, hk⟩ : ∃ k : Int, ([2, 4] : List Int)[j]? = some k := ⟨_, List.getElem?_eq_getElem hjl⟩
          have hkb : 2 ≤ k ∧ k ≤ 6 := fg_bd (g := 5) (by rw [show fgL 5 = [2, 4] from rfl]; exact List.mem_of_getElem? hk)
          have HK := hid hk
          have hTk := HT.out k
          obtain ⟨q, hq⟩ : ∃ q, P + k = q := ⟨_, rfl⟩
          have q0 : 0 ≤ q := by omega
          have q1 : q ≤ 70 := by omega
          rw [hq] at hTk
          have wq : IntKind.i64.wrap (P + k) = q := by rw [hq]; exact IntWalk.i64_in _ (by omega)
          have wq2 : IntKind.i64.wrap q = q := IntWalk.i64_in _ (by omega)
          have te : q.tmod 7 = q % 7 := Int.tmod_eq_emod_of_nonneg q0
          have td : q.tdiv 7 = q / 7 := Int.tdiv_eq_ediv_of_nonneg q0
          obtain ⟨s, hs⟩ : ∃ s, q % 7 = s := ⟨_, rfl⟩
          obtain ⟨o, ho⟩ : ∃ s, q / 7 = s := ⟨_, rfl⟩
          obtain ⟨a, ha⟩ : ∃ a, altZ f s = a := ⟨_, rfl⟩
          have s0 : 0 ≤ s := by omega
          have s6 : s ≤ 6 := by omega
          rw [hs] at te
          rw [ho] at td
          have ws : IntKind.i64.wrap s = s := IntWalk.i64_in _ (by omega)
          have wo : IntKind.i64.wrap o = o := IntWalk.i64_in _ (by omega)
          have HA := hid (fun W => alS_is s0 s6 ha W)
          have HTK := hid (show ftT f x k = ⟨s, a, o⟩ by rw [hTk]; unfold plP; rw [hs, ho, ha])
          clear he hk hTk ha
          obtain ⟨b, hb⟩ : ∃ b, pvB s a o = b := ⟨_, rfl⟩
          have HB := hid (fun W => pvS_is W hb)
          go_wp2_with fail
          apply own_code hO
          (repeat (first | (with_reducible exact hO) | (with_reducible apply Own.alloc) | (with_reducible apply Own.drew) | ((with_reducible apply Own.set_at); (focus (show _ ≤ _; omega)))))
          have hG := hF; clear hF; clear hO; intro hO
          (try simp only [World.size_alloc1, World.size_drew, Nat.reduceAdd] at hO); (try simp only [upd, updI, List.map_cons, List.map_nil, eq_self, if_true, if_false, reduceIte, Nat.add_eq_left, Nat.left_eq_add, Nat.reduceEqDiff, List.set_cons_zero, List.set_cons_succ, hG] at hO); clear hG
          refine region_own (X := fun _ => True) [] (by kernel_rfl) (hO) (trivial) (by first | exact XStab.true | exact XStab.rd | exact XStab.rdIf) ?_
          clear hO
          refine Sim.sO (i := 0) (d := some 48) (v := ?_) (hy := ?_) (h := ?_)
          rotate_left
          · first | refine Or.inl ⟨by rfl, fun w hO => ?_⟩ | (refine Or.inr ⟨by rfl, ?_⟩; with_reducible rfl)
            first | done | (have hF := hO; (try simp only [Own, Item.Holds, apartI, CellsAt, Nat.reduceAdd, Nat.zero_add, List.mem_cons, List.not_mem_nil, or_false, forall_eq_or_imp, forall_eq, ne_eq, false_imp_iff, implies_true, and_true] at hF); ((have c0 := own_ints [2, 4] hO (List.mem_cons_of_mem _ List.mem_cons_self) HK.out)); refine Out.same ?_; go_simp; all_goals with_reducible rfl)
          refine Sim.sO (i := 1) (d := some 49) (v := ?_) (hy := ?_) (h := ?_)
          rotate_left
          · first | refine Or.inl ⟨by rfl, fun w hO => ?_⟩ | (refine Or.inr ⟨by rfl, ?_⟩; with_reducible rfl)
            first | done | (refine Out.call (f := 125) (args := ?_) ?_ ?_; rotate_left; (focus (go_simp; all_goals with_reducible rfl)); exact HP.out _)
          refine Sim.sP (i := 2) (d := some 50) (h := ?_)
          refine Sim.sP (i := 3) (d := some 51) (h := ?_)
          refine Sim.sP (i := 4) (d := some 52) (h := ?_)
          refine Sim.sO (i := 5) (d := some 53) (v := ?_) (hy := ?_) (h := ?_)
          rotate_left
          · first | refine Or.inl ⟨by rfl, fun w hO => ?_⟩ | (refine Or.inr ⟨by rfl, ?_⟩; with_reducible rfl)
            first | done | (have hF := hO; (try simp only [Own, Item.Holds, apartI, CellsAt, Nat.reduceAdd, Nat.zero_add, List.mem_cons, List.not_mem_nil, or_false, forall_eq_or_imp, forall_eq, ne_eq, false_imp_iff, implies_true, and_true] at hF); ((have c0 := own_ints [2, 4] hO (List.mem_cons_of_mem _ List.mem_cons_self) HK.out)); refine Out.same ?_; go_simp; all_goals with_reducible rfl)
          refine Sim.sP (i := 6) (d := some 54) (h := ?_)
          refine Sim.sP (i := 7) (d := some 10) (h := ?_)
          refine Sim.done (by kernel_rfl) (fun w1 hO hX => ?_) _
          (try simp only [World.size_alloc1, World.size_drew, Nat.reduceAdd] at hO); (try simp only [upd, updI, List.map_cons, List.map_nil, eq_self, if_true, if_false, reduceIte, Nat.add_eq_left, Nat.left_eq_add, Nat.reduceEqDiff, List.set_cons_zero, List.set_cons_succ] at hO)
          have hF := hO; (try simp only [Own, Item.Holds, apartI, CellsAt, Nat.reduceAdd, Nat.zero_add, List.mem_cons, List.not_mem_nil, or_false, forall_eq_or_imp, forall_eq, ne_eq, false_imp_iff, implies_true, and_true] at hF)
          all_goals
            cases b
            · have HE := hid (HN.out (fun h => by
                have := h k (List.mem_of_getElem? HK.out)
                rw [HTK.out] at this
                rw [show pvP ⟨s, a, o⟩ = false from hb] at this
                cases this))
              clear hb
              go_wp2_with (first | (go_at_call 88; apply own_at hO; (repeat (first | (with_reducible exact hO) | (with_reducible apply Own.alloc) | (with_reducible apply Own.drew) | ((with_reducible apply Own.set_at); (focus (show _ ≤ _; omega))))); have hG := hF; clear hF; clear hO; intro hO; refine own_call hO (fun hB => HA.out _) ?_; clear hO; intro w1 hO; (try simp only [World.size_alloc1, World.size_drew, Nat.reduceAdd] at hO); (try simp only [upd, updI, List.map_cons, List.map_nil, eq_self, if_true, if_false, reduceIte, Nat.add_eq_left, Nat.left_eq_add, Nat.reduceEqDiff, List.set_cons_zero, List.set_cons_succ, hG] at hO); clear hG; have hF := hO; (try simp only [Own, Item.Holds, apartI, CellsAt, Nat.reduceAdd, Nat.zero_add, List.mem_cons, List.not_mem_nil, or_false, forall_eq_or_imp, forall_eq, ne_eq, false_imp_iff, implies_true, and_true] at hF)) | (go_at_call 52; apply own_at hO; (repeat (first | (with_reducible exact hO) | (with_reducible apply Own.alloc) | (with_reducible apply Own.drew) | ((with_reducible apply Own.set_at); (focus (show _ ≤ _; omega))))); have hG := hF; clear hF; clear hO; intro hO; refine own_call hO (fun hB => HB.out _) ?_; clear hO; intro w1 hO; (try simp only [World.size_alloc1, World.size_drew, Nat.reduceAdd] at hO); (try simp only [upd, updI, List.map_cons, List.map_nil, eq_self, if_true, if_false, reduceIte, Nat.add_eq_left, Nat.left_eq_add, Nat.reduceEqDiff, List.set_cons_zero, List.set_cons_succ, hG] at hO); clear hG; have hF := hO; (try simp only [Own, Item.Holds, apartI, CellsAt, Nat.reduceAdd, Nat.zero_add, List.mem_cons, List.not_mem_nil, or_false, forall_eq_or_imp, forall_eq, ne_eq, false_imp_iff, implies_true, and_true] at hF)))
              go_ret
              rw [HE.out]
              exact RowOut.mk (Own.allocRow (e := 29) (cur := #[]) (k := 0) (cap := 0) 3 (by (repeat (first | (with_reducible exact hO) | (with_reducible apply Own.alloc) | (with_reducible apply Own.drew) | ((with_reducible apply Own.set_at); (focus (show _ ≤ _; omega)))))) (by omega) (by unfold maxLen; omega) rfl)
            · have HU := hid (take_ok HK.out hok.out (by rw [HTK.out]; exact hb))
              have HC := hid (ft_take HK.out HTK.out)
              clear hb
              go_wp2_with (first | (go_at_call 88; apply own_at hO; (repeat (first | (with_reducible exact hO) | (with_reducible apply Own.alloc) | (with_reducible apply Own.drew) | ((with_reducible apply Own.set_at); (focus (show _ ≤ _; omega))))); have hG := hF; clear hF; clear hO; intro hO; refine own_call hO (fun hB => HA.out _) ?_; clear hO; intro w1 hO; (try simp only [World.size_alloc1, World.size_drew, Nat.reduceAdd] at hO); (try simp only [upd, updI, List.map_cons, List.map_nil, eq_self, if_true, if_false, reduceIte, Nat.add_eq_left, Nat.left_eq_add, Nat.reduceEqDiff, List.set_cons_zero, List.set_cons_succ, hG] at hO); clear hG; have hF := hO; (try simp only [Own, Item.Holds, apartI, CellsAt, Nat.reduceAdd, Nat.zero_add, List.mem_cons, List.not_mem_nil, or_false, forall_eq_or_imp, forall_eq, ne_eq, false_imp_iff, implies_true, and_true] at hF)) | (go_at_call 52; apply own_at hO; (repeat (first | (with_reducible exact hO) | (with_reducible apply Own.alloc) | (with_reducible apply Own.drew) | ((with_reducible apply Own.set_at); (focus (show _ ≤ _; omega))))); have hG := hF; clear hF; clear hO; intro hO; refine own_call hO (fun hB => HB.out _) ?_; clear hO; intro w1 hO; (try simp only [World.size_alloc1, World.size_drew, Nat.reduceAdd] at hO); (try simp only [upd, updI, List.map_cons, List.map_nil, eq_self, if_true, if_false, reduceIte, Nat.add_eq_left, Nat.left_eq_add, Nat.reduceEqDiff, List.set_cons_zero, List.set_cons_succ, hG] at hO); clear hG; have hF := hO; (try simp only [Own, Item.Holds, apartI, CellsAt, Nat.reduceAdd, Nat.zero_add, List.mem_cons, List.not_mem_nil, or_false, forall_eq_or_imp, forall_eq, ne_eq, false_imp_iff, implies_true, and_true] at hF)) | (at_builtin; apply own_list hO; (repeat (first | (with_reducible exact hO) | (with_reducible apply Own.alloc) | (with_reducible apply Own.drew) | ((with_reducible apply Own.set_at); (focus (show _ ≤ _; omega))))); have hG := hF; clear hF; clear hO; intro hO; (try simp only [World.size_alloc1, World.size_drew, Nat.reduceAdd] at hO); (try simp only [upd, updI, List.map_cons, List.map_nil, eq_self, if_true, if_false, reduceIte, Nat.add_eq_left, Nat.left_eq_add, Nat.reduceEqDiff, List.set_cons_zero, List.set_cons_succ, hG] at hO); clear hG; (try simp only [World.size_setCell] at hO); have hF := hO; (try simp only [Own, Item.Holds, apartI, CellsAt, Nat.reduceAdd, Nat.zero_add, List.mem_cons, List.not_mem_nil, or_false, forall_eq_or_imp, forall_eq, ne_eq, false_imp_iff, implies_true, and_true] at hF); replace hO := Own.sub (.cons_cons _ (.cons _ (List.Sublist.refl _))) hO; refine wpList_append_item rfl _ _ 23 rfl 29 i0 (.agg #[.int .i64 0, .int .i64 0, .int .i64 0]) 3 24 Tryd.underlying23 hi hz0 hz1 hz2 rfl (by decide) rfl rfl hO rfl one3t (by unfold maxLen; omega) (by omega) ?_; clear hO hF; intro v' w2 hO _; have hF := True.intro))
              go_roundw
              case rel => exact ⟨j + 1, by omega, by go_num, HU.out, by rw [← HC.out]; exact hO⟩
              case measure => simp [intOf]; omega
set_option maxRecDepth 20000 in
set_option maxHeartbeats 8000000 in
theorem ftS_6 (f : Int) (x : Pt) (w : World) :
    Calls Tryd.prog 110 #[.int .i64 f, .agg #[.int .i64 x.s, .int .i64 x.a, .int .i64 x.o], .int .i64 6] w (RowOut 29 3 (ftL f x 6).length (pcC (ftL f x 6)) w) := by
  have hO := Own.start w
  have hF := True.intro
  obtain ⟨i0, hi, hz0, hz1, hz2⟩ := info_parts infoPi
  have hg : fgL 6 = [2, 5] := rfl
  cases h1 : inB f (-7) 7
  · have HE := hid (ft_no (f := f) (x := x) (g := 6) (fun h => by rw [show keyB f = false from h1] at h; cases h.1))
    rw [HE.out]
    have HI := hid (fun W => in_is W h1)
    clear hg h1
    go_enter Tryd.func110, Tryd.ntmps110
    go_wp2_with (go_at_call 48; apply own_at hO; (repeat (first | (with_reducible exact hO) | (with_reducible apply Own.alloc) | (with_reducible apply Own.drew) | ((with_reducible apply Own.set_at); (focus (show _ ≤ _; omega))))); have hG := hF; clear hF; clear hO; intro hO; refine own_call hO (fun hB => HI.out _) ?_; clear hO; intro w1 hO; (try simp only [World.size_alloc1, World.size_drew, Nat.reduceAdd] at hO); (try simp only [upd, updI, List.map_cons, List.map_nil, eq_self, if_true, if_false, reduceIte, Nat.add_eq_left, Nat.left_eq_add, Nat.reduceEqDiff, List.set_cons_zero, List.set_cons_succ, hG] at hO); clear hG; have hF := hO; (try simp only [Own, Item.Holds, apartI, CellsAt, Nat.reduceAdd, Nat.zero_add, List.mem_cons, List.not_mem_nil, or_false, forall_eq_or_imp, forall_eq, ne_eq, false_imp_iff, implies_true, and_true] at hF))
    go_ret
    exact RowOut.mk (Own.allocRow (e := 29) (cur := #[]) (k := 0) (cap := 0) 3 (by (repeat (first | (with_reducible exact hO) | (with_reducible apply Own.alloc) | (with_reducible apply Own.drew) | ((with_reducible apply Own.set_at); (focus (show _ ≤ _; omega)))))) (by omega) (by unfold maxLen; omega) rfl)
  · have HI := hid (fun W => in_is W h1)
    cases h2 : pvP x
    · have HE := hid (ft_no (f := f) (x := x) (g := 6) (fun h => by rw [h2] at h; cases h.2.1))
      rw [HE.out]
      have HV := hid (fun W => pvS_is W (show pvB x.s x.a x.o = false from h2))
      clear hg h1 h2
      go_enter Tryd.func110, Tryd.ntmps110
      go_wp2_with (first | (go_at_call 48; apply own_at hO; (repeat (first | (with_reducible exact hO) | (with_reducible apply Own.alloc) | (with_reducible apply Own.drew) | ((with_reducible apply Own.set_at); (focus (show _ ≤ _; omega))))); have hG := hF; clear hF; clear hO; intro hO; refine own_call hO (fun hB => HI.out _) ?_; clear hO; intro w1 hO; (try simp only [World.size_alloc1, World.size_drew, Nat.reduceAdd] at hO); (try simp only [upd, updI, List.map_cons, List.map_nil, eq_self, if_true, if_false, reduceIte, Nat.add_eq_left, Nat.left_eq_add, Nat.reduceEqDiff, List.set_cons_zero, List.set_cons_succ, hG] at hO); clear hG; have hF := hO; (try simp only [Own, Item.Holds, apartI, CellsAt, Nat.reduceAdd, Nat.zero_add, List.mem_cons, List.not_mem_nil, or_false, forall_eq_or_imp, forall_eq, ne_eq, false_imp_iff, implies_true, and_true] at hF)) | (go_at_call 52; apply own_at hO; (repeat (first | (with_reducible exact hO) | (with_reducible apply Own.alloc) | (with_reducible apply Own.drew) | ((with_reducible apply Own.set_at); (focus (show _ ≤ _; omega))))); have hG := hF; clear hF; clear hO; intro hO; refine own_call hO (fun hB => HV.out _) ?_; clear hO; intro w1 hO; (try simp only [World.size_alloc1, World.size_drew, Nat.reduceAdd] at hO); (try simp only [upd, updI, List.map_cons, List.map_nil, eq_self, if_true, if_false, reduceIte, Nat.add_eq_left, Nat.left_eq_add, Nat.reduceEqDiff, List.set_cons_zero, List.set_cons_succ, hG] at hO); clear hG; have hF := hO; (try simp only [Own, Item.Holds, apartI, CellsAt, Nat.reduceAdd, Nat.zero_add, List.mem_cons, List.not_mem_nil, or_false, forall_eq_or_imp, forall_eq, ne_eq, false_imp_iff, implies_true, and_true] at hF)))
      go_ret
      exact RowOut.mk (Own.allocRow (e := 29) (cur := #[]) (k := 0) (cap := 0) 3 (by (repeat (first | (with_reducible exact hO) | (with_reducible apply Own.alloc) | (with_reducible apply Own.drew) | ((with_reducible apply Own.set_at); (focus (show _ ≤ _; omega)))))) (by omega) (by unfold maxLen; omega) rfl)
    · have HV := hid (fun W => pvS_is W (show pvB x.s x.a x.o = true from h2))
      have HY := hid (fun (h4 : ∀ k ∈ fgL 6, pvP (ftT f x k) = true) => ft_yes (f := f) (x := x) (g := 6) h1 h2 (by rw [hg]; simp) h4)
      have HN := hid (fun (h4 : ¬ ∀ k ∈ fgL 6, pvP (ftT f x k) = true) => ft_no (f := f) (x := x) (g := 6) (fun h => h4 h.2.2.2))
      rw [hg] at HY HN
      obtain ⟨_, P0, P1⟩ := plZ_of h2
      obtain ⟨P, hP⟩ : ∃ P, plZ x = P := ⟨_, rfl⟩
      rw [hP] at P0 P1
      have HP := hid (fun W => plS_is hP W)
      have HT := hid (show ∀ k, ftT f x k = plP f (P + k) from fun k => by unfold ftT; rw [hP])
      clear hg h1 h2 hP
      go_enter Tryd.func110, Tryd.ntmps110
      go_wp2_with fail
      have hO1 := Own.allocRow (e := 29) (cur := #[.int .i64 x.s, .int .i64 x.a, .int .i64 x.o]) (k := 1) (cap := 1) 3 (Own.alloc (t := 3) (vs := [.int .i64 2, .int .i64 5]) (Own.alloc (t := 3) (vs := []) (Own.alloc (t := 29) (vs := [.int .i64 x.s, .int .i64 x.a, .int .i64 x.o]) hO))) (Nat.le_refl _) (by unfold maxLen; omega) rfl
      clear hO
      have hO := hO1
      clear hO1
      go_wp2_with (first | (go_at_call 48; apply own_at hO; (repeat (first | (with_reducible exact hO) | (with_reducible apply Own.alloc) | (with_reducible apply Own.drew) | ((with_reducible apply Own.set_at); (focus (show _ ≤ _; omega))))); have hG := hF; clear hF; clear hO; intro hO; refine own_call hO (fun hB => HI.out _) ?_; clear hO; intro w1 hO; (try simp only [World.size_alloc1, World.size_drew, Nat.reduceAdd] at hO); (try simp only [upd, updI, List.map_cons, List.map_nil, eq_self, if_true, if_false, reduceIte, Nat.add_eq_left, Nat.left_eq_add, Nat.reduceEqDiff, List.set_cons_zero, List.set_cons_succ, hG] at hO); clear hG; have hF := hO; (try simp only [Own, Item.Holds, apartI, CellsAt, Nat.reduceAdd, Nat.zero_add, List.mem_cons, List.not_mem_nil, or_false, forall_eq_or_imp, forall_eq, ne_eq, false_imp_iff, implies_true, and_true] at hF)) | (go_at_call 52; apply own_at hO; (repeat (first | (with_reducible exact hO) | (with_reducible apply Own.alloc) | (with_reducible apply Own.drew) | ((with_reducible apply Own.set_at); (focus (show _ ≤ _; omega))))); have hG := hF; clear hF; clear hO; intro hO; refine own_call hO (fun hB => HV.out _) ?_; clear hO; intro w1 hO; (try simp only [World.size_alloc1, World.size_drew, Nat.reduceAdd] at hO); (try simp only [upd, updI, List.map_cons, List.map_nil, eq_self, if_true, if_false, reduceIte, Nat.add_eq_left, Nat.left_eq_add, Nat.reduceEqDiff, List.set_cons_zero, List.set_cons_succ, hG] at hO); clear hG; have hF := hO; (try simp only [Own, Item.Holds, apartI, CellsAt, Nat.reduceAdd, Nat.zero_add, List.mem_cons, List.not_mem_nil, or_false, forall_eq_or_imp, forall_eq, ne_eq, false_imp_iff, implies_true, and_true] at hF)))
      go_loopw [8, 9] (fun u t wr => ∃ j : Nat, j ≤ 2 ∧ t = .int .i64 j ∧ Hid (∀ k ∈ [2, 5].take j, pvP (ftT f x k) = true) ∧ Own w.heap.size (Below w.heap.size w) wr [.row 29 3 u (j + 1) (pcC (x :: ([2, 5].take j).map (ftT f x))), .blk (w.heap.size + 1 + 1) [.int .i64 2, .int .i64 5], .blk (w.heap.size + 1) [], .blk w.heap.size [.int .i64 x.s, .int .i64 x.a, .int .i64 x.o]]) (fun _ t _ => 2 - (intOf t).toNat)
      case atStart => exact ⟨0, by omega, rfl, fun k hk => by simp at hk, hO⟩
      case round =>
        clear hO hF
        obtain ⟨j, hj, rfl, hok, hO⟩ := hrel
        have hF := hO; (try simp only [Own, Item.Holds, apartI, CellsAt, Nat.reduceAdd, Nat.zero_add, List.mem_cons, List.not_mem_nil, or_false, forall_eq_or_imp, forall_eq, ne_eq, false_imp_iff, implies_true, and_true] at hF)
        by_cases he : j = 2
        · subst he
          have HE := hid (show ftL f x 6 = x :: ([2, 5].take 2).map (ftT f x) ∧ (x :: ([2, 5].take 2).map (ftT f x)).length = 2 + 1 from ⟨HY.out hok.out, rfl⟩)
          go_wp2_with fail
          go_ret
          rw [HE.out.1, HE.out.2]
          exact RowOut.mk hO
        · have hjl : j < 2 := by omega
          have hjl2 : (j : Int) < 2 := by omega
          have hj0 : (0 : Int) ≤ (j : Int) := by omega
          obtain ⟨k, hk⟩ : ∃ k : Int, ([2, 5] : List Int)[j]? = some k := ⟨_, List.getElem?_eq_getElem hjl⟩
          have hkb : 2 ≤ k ∧ k ≤ 6 := fg_bd (g := 6) (by rw [show fgL 6 = [2, 5] from rfl]; exact List.mem_of_getElem? hk)
          have HK := hid hk
          have hTk := HT.out k
          obtain ⟨q, hq⟩ : ∃ q, P + k = q := ⟨_, rfl⟩
          have q0 : 0 ≤ q := by omega
          have q1 : q ≤ 70 := by omega
          rw [hq] at hTk
          have wq : IntKind.i64.wrap (P + k) = q := by rw [hq]; exact IntWalk.i64_in _ (by omega)
          have wq2 : IntKind.i64.wrap q = q := IntWalk.i64_in _ (by omega)
          have te : q.tmod 7 = q % 7 := Int.tmod_eq_emod_of_nonneg q0
          have td : q.tdiv 7 = q / 7 := Int.tdiv_eq_ediv_of_nonneg q0
          obtain ⟨s, hs⟩ : ∃ s, q % 7 = s := ⟨_, rfl⟩
          obtain ⟨o, ho⟩ : ∃ s, q / 7 = s := ⟨_, rfl⟩
          obtain ⟨a, ha⟩ : ∃ a, altZ f s = a := ⟨_, rfl⟩
          have s0 : 0 ≤ s := by omega
          have s6 : s ≤ 6 := by omega
          rw [hs] at te
          rw [ho] at td
          have ws : IntKind.i64.wrap s = s := IntWalk.i64_in _ (by omega)
          have wo : IntKind.i64.wrap o = o := IntWalk.i64_in _ (by omega)
          have HA := hid (fun W => alS_is s0 s6 ha W)
          have HTK := hid (show ftT f x k = ⟨s, a, o⟩ by rw [hTk]; unfold plP; rw [hs, ho, ha])
          clear he hk hTk ha
          obtain ⟨b, hb⟩ : ∃ b, pvB s a o = b := ⟨_, rfl⟩
          have HB := hid (fun W => pvS_is W hb)
          go_wp2_with fail
          apply own_code hO
          (repeat (first | (with_reducible exact hO) | (with_reducible apply Own.alloc) | (with_reducible apply Own.drew) | ((with_reducible apply Own.set_at); (focus (show _ ≤ _; omega)))))
          have hG := hF; clear hF; clear hO; intro hO
          (try simp only [World.size_alloc1, World.size_drew, Nat.reduceAdd] at hO); (try simp only [upd, updI, List.map_cons, List.map_nil, eq_self, if_true, if_false, reduceIte, Nat.add_eq_left, Nat.left_eq_add, Nat.reduceEqDiff, List.set_cons_zero, List.set_cons_succ, hG] at hO); clear hG
          refine region_own (X := fun _ => True) [] (by kernel_rfl) (hO) (trivial) (by first | exact XStab.true | exact XStab.rd | exact XStab.rdIf) ?_
          clear hO
          refine Sim.sO (i := 0) (d := some 48) (v := ?_) (hy := ?_) (h := ?_)
          rotate_left
          · first | refine Or.inl ⟨by rfl, fun w hO => ?_⟩ | (refine Or.inr ⟨by rfl, ?_⟩; with_reducible rfl)
            first | done | (have hF := hO; (try simp only [Own, Item.Holds, apartI, CellsAt, Nat.reduceAdd, Nat.zero_add, List.mem_cons, List.not_mem_nil, or_false, forall_eq_or_imp, forall_eq, ne_eq, false_imp_iff, implies_true, and_true] at hF); ((have c0 := own_ints [2, 5] hO (List.mem_cons_of_mem _ List.mem_cons_self) HK.out)); refine Out.same ?_; go_simp; all_goals with_reducible rfl)
          refine Sim.sO (i := 1) (d := some 49) (v := ?_) (hy := ?_) (h := ?_)
          rotate_left
          · first | refine Or.inl ⟨by rfl, fun w hO => ?_⟩ | (refine Or.inr ⟨by rfl, ?_⟩; with_reducible rfl)
            first | done | (refine Out.call (f := 125) (args := ?_) ?_ ?_; rotate_left; (focus (go_simp; all_goals with_reducible rfl)); exact HP.out _)
          refine Sim.sP (i := 2) (d := some 50) (h := ?_)
          refine Sim.sP (i := 3) (d := some 51) (h := ?_)
          refine Sim.sP (i := 4) (d := some 52) (h := ?_)
          refine Sim.sO (i := 5) (d := some 53) (v := ?_) (hy := ?_) (h := ?_)
          rotate_left
          · first | refine Or.inl ⟨by rfl, fun w hO => ?_⟩ | (refine Or.inr ⟨by rfl, ?_⟩; with_reducible rfl)
            first | done | (have hF := hO; (try simp only [Own, Item.Holds, apartI, CellsAt, Nat.reduceAdd, Nat.zero_add, List.mem_cons, List.not_mem_nil, or_false, forall_eq_or_imp, forall_eq, ne_eq, false_imp_iff, implies_true, and_true] at hF); ((have c0 := own_ints [2, 5] hO (List.mem_cons_of_mem _ List.mem_cons_self) HK.out)); refine Out.same ?_; go_simp; all_goals with_reducible rfl)
          refine Sim.sP (i := 6) (d := some 54) (h := ?_)
          refine Sim.sP (i := 7) (d := some 10) (h := ?_)
          refine Sim.done (by kernel_rfl) (fun w1 hO hX => ?_) _
          (try simp only [World.size_alloc1, World.size_drew, Nat.reduceAdd] at hO); (try simp only [upd, updI, List.map_cons, List.map_nil, eq_self, if_true, if_false, reduceIte, Nat.add_eq_left, Nat.left_eq_add, Nat.reduceEqDiff, List.set_cons_zero, List.set_cons_succ] at hO)
          have hF := hO; (try simp only [Own, Item.Holds, apartI, CellsAt, Nat.reduceAdd, Nat.zero_add, List.mem_cons, List.not_mem_nil, or_false, forall_eq_or_imp, forall_eq, ne_eq, false_imp_iff, implies_true, and_true] at hF)
          all_goals
            cases b
            · have HE := hid (HN.out (fun h => by
                have := h k (List.mem_of_getElem? HK.out)
                rw [HTK.out] at this
                rw [show pvP ⟨s, a, o⟩ = false from hb] at this
                cases this))
              clear hb
              go_wp2_with (first | (go_at_call 88; apply own_at hO; (repeat (first | (with_reducible exact hO) | (with_reducible apply Own.alloc) | (with_reducible apply Own.drew) | ((with_reducible apply Own.set_at); (focus (show _ ≤ _; omega))))); have hG := hF; clear hF; clear hO; intro hO; refine own_call hO (fun hB => HA.out _) ?_; clear hO; intro w1 hO; (try simp only [World.size_alloc1, World.size_drew, Nat.reduceAdd] at hO); (try simp only [upd, updI, List.map_cons, List.map_nil, eq_self, if_true, if_false, reduceIte, Nat.add_eq_left, Nat.left_eq_add, Nat.reduceEqDiff, List.set_cons_zero, List.set_cons_succ, hG] at hO); clear hG; have hF := hO; (try simp only [Own, Item.Holds, apartI, CellsAt, Nat.reduceAdd, Nat.zero_add, List.mem_cons, List.not_mem_nil, or_false, forall_eq_or_imp, forall_eq, ne_eq, false_imp_iff, implies_true, and_true] at hF)) | (go_at_call 52; apply own_at hO; (repeat (first | (with_reducible exact hO) | (with_reducible apply Own.alloc) | (with_reducible apply Own.drew) | ((with_reducible apply Own.set_at); (focus (show _ ≤ _; omega))))); have hG := hF; clear hF; clear hO; intro hO; refine own_call hO (fun hB => HB.out _) ?_; clear hO; intro w1 hO; (try simp only [World.size_alloc1, World.size_drew, Nat.reduceAdd] at hO); (try simp only [upd, updI, List.map_cons, List.map_nil, eq_self, if_true, if_false, reduceIte, Nat.add_eq_left, Nat.left_eq_add, Nat.reduceEqDiff, List.set_cons_zero, List.set_cons_succ, hG] at hO); clear hG; have hF := hO; (try simp only [Own, Item.Holds, apartI, CellsAt, Nat.reduceAdd, Nat.zero_add, List.mem_cons, List.not_mem_nil, or_false, forall_eq_or_imp, forall_eq, ne_eq, false_imp_iff, implies_true, and_true] at hF)))
              go_ret
              rw [HE.out]
              exact RowOut.mk (Own.allocRow (e := 29) (cur := #[]) (k := 0) (cap := 0) 3 (by (repeat (first | (with_reducible exact hO) | (with_reducible apply Own.alloc) | (with_reducible apply Own.drew) | ((with_reducible apply Own.set_at); (focus (show _ ≤ _; omega)))))) (by omega) (by unfold maxLen; omega) rfl)
            · have HU := hid (take_ok HK.out hok.out (by rw [HTK.out]; exact hb))
              have HC := hid (ft_take HK.out HTK.out)
              clear hb
              go_wp2_with (first | (go_at_call 88; apply own_at hO; (repeat (first | (with_reducible exact hO) | (with_reducible apply Own.alloc) | (with_reducible apply Own.drew) | ((with_reducible apply Own.set_at); (focus (show _ ≤ _; omega))))); have hG := hF; clear hF; clear hO; intro hO; refine own_call hO (fun hB => HA.out _) ?_; clear hO; intro w1 hO; (try simp only [World.size_alloc1, World.size_drew, Nat.reduceAdd] at hO); (try simp only [upd, updI, List.map_cons, List.map_nil, eq_self, if_true, if_false, reduceIte, Nat.add_eq_left, Nat.left_eq_add, Nat.reduceEqDiff, List.set_cons_zero, List.set_cons_succ, hG] at hO); clear hG; have hF := hO; (try simp only [Own, Item.Holds, apartI, CellsAt, Nat.reduceAdd, Nat.zero_add, List.mem_cons, List.not_mem_nil, or_false, forall_eq_or_imp, forall_eq, ne_eq, false_imp_iff, implies_true, and_true] at hF)) | (go_at_call 52; apply own_at hO; (repeat (first | (with_reducible exact hO) | (with_reducible apply Own.alloc) | (with_reducible apply Own.drew) | ((with_reducible apply Own.set_at); (focus (show _ ≤ _; omega))))); have hG := hF; clear hF; clear hO; intro hO; refine own_call hO (fun hB => HB.out _) ?_; clear hO; intro w1 hO; (try simp only [World.size_alloc1, World.size_drew, Nat.reduceAdd] at hO); (try simp only [upd, updI, List.map_cons, List.map_nil, eq_self, if_true, if_false, reduceIte, Nat.add_eq_left, Nat.left_eq_add, Nat.reduceEqDiff, List.set_cons_zero, List.set_cons_succ, hG] at hO); clear hG; have hF := hO; (try simp only [Own, Item.Holds, apartI, CellsAt, Nat.reduceAdd, Nat.zero_add, List.mem_cons, List.not_mem_nil, or_false, forall_eq_or_imp, forall_eq, ne_eq, false_imp_iff, implies_true, and_true] at hF)) | (at_builtin; apply own_list hO; (repeat (first | (with_reducible exact hO) | (with_reducible apply Own.alloc) | (with_reducible apply Own.drew) | ((with_reducible apply Own.set_at); (focus (show _ ≤ _; omega))))); have hG := hF; clear hF; clear hO; intro hO; (try simp only [World.size_alloc1, World.size_drew, Nat.reduceAdd] at hO); (try simp only [upd, updI, List.map_cons, List.map_nil, eq_self, if_true, if_false, reduceIte, Nat.add_eq_left, Nat.left_eq_add, Nat.reduceEqDiff, List.set_cons_zero, List.set_cons_succ, hG] at hO); clear hG; (try simp only [World.size_setCell] at hO); have hF := hO; (try simp only [Own, Item.Holds, apartI, CellsAt, Nat.reduceAdd, Nat.zero_add, List.mem_cons, List.not_mem_nil, or_false, forall_eq_or_imp, forall_eq, ne_eq, false_imp_iff, implies_true, and_true] at hF); replace hO := Own.sub (.cons_cons _ (.cons _ (List.Sublist.refl _))) hO; refine wpList_append_item rfl _ _ 23 rfl 29 i0 (.agg #[.int .i64 0, .int .i64 0, .int .i64 0]) 3 24 Tryd.underlying23 hi hz0 hz1 hz2 rfl (by decide) rfl rfl hO rfl one3t (by unfold maxLen; omega) (by omega) ?_; clear hO hF; intro v' w2 hO _; have hF := True.intro))
              go_roundw
              case rel => exact ⟨j + 1, by omega, by go_num, HU.out, by rw [← HC.out]; exact hO⟩
              case measure => simp [intOf]; omega
set_option maxRecDepth 20000 in
set_option maxHeartbeats 8000000 in
theorem ftS_4 (f : Int) (x : Pt) (w : World) :
    Calls Tryd.prog 110 #[.int .i64 f, .agg #[.int .i64 x.s, .int .i64 x.a, .int .i64 x.o], .int .i64 4] w (RowOut 29 3 (ftL f x 4).length (pcC (ftL f x 4)) w) := by
  have hO := Own.start w
  have hF := True.intro
  obtain ⟨i0, hi, hz0, hz1, hz2⟩ := info_parts infoPi
  have hg : fgL 4 = [3, 5] := rfl
  cases h1 : inB f (-7) 7
  · have HE := hid (ft_no (f := f) (x := x) (g := 4) (fun h => by rw [show keyB f = false from h1] at h; cases h.1))
    rw [HE.out]
    have HI := hid (fun W => in_is W h1)
    clear hg h1
    go_enter Tryd.func110, Tryd.ntmps110
    go_wp2_with (go_at_call 48; apply own_at hO; (repeat (first | (with_reducible exact hO) | (with_reducible apply Own.alloc) | (with_reducible apply Own.drew) | ((with_reducible apply Own.set_at); (focus (show _ ≤ _; omega))))); have hG := hF; clear hF; clear hO; intro hO; refine own_call hO (fun hB => HI.out _) ?_; clear hO; intro w1 hO; (try simp only [World.size_alloc1, World.size_drew, Nat.reduceAdd] at hO); (try simp only [upd, updI, List.map_cons, List.map_nil, eq_self, if_true, if_false, reduceIte, Nat.add_eq_left, Nat.left_eq_add, Nat.reduceEqDiff, List.set_cons_zero, List.set_cons_succ, hG] at hO); clear hG; have hF := hO; (try simp only [Own, Item.Holds, apartI, CellsAt, Nat.reduceAdd, Nat.zero_add, List.mem_cons, List.not_mem_nil, or_false, forall_eq_or_imp, forall_eq, ne_eq, false_imp_iff, implies_true, and_true] at hF))
    go_ret
    exact RowOut.mk (Own.allocRow (e := 29) (cur := #[]) (k := 0) (cap := 0) 3 (by (repeat (first | (with_reducible exact hO) | (with_reducible apply Own.alloc) | (with_reducible apply Own.drew) | ((with_reducible apply Own.set_at); (focus (show _ ≤ _; omega)))))) (by omega) (by unfold maxLen; omega) rfl)
  · have HI := hid (fun W => in_is W h1)
    cases h2 : pvP x
    · have HE := hid (ft_no (f := f) (x := x) (g := 4) (fun h => by rw [h2] at h; cases h.2.1))
      rw [HE.out]
      have HV := hid (fun W => pvS_is W (show pvB x.s x.a x.o = false from h2))
      clear hg h1 h2
      go_enter Tryd.func110, Tryd.ntmps110
      go_wp2_with (first | (go_at_call 48; apply own_at hO; (repeat (first | (with_reducible exact hO) | (with_reducible apply Own.alloc) | (with_reducible apply Own.drew) | ((with_reducible apply Own.set_at); (focus (show _ ≤ _; omega))))); have hG := hF; clear hF; clear hO; intro hO; refine own_call hO (fun hB => HI.out _) ?_; clear hO; intro w1 hO; (try simp only [World.size_alloc1, World.size_drew, Nat.reduceAdd] at hO); (try simp only [upd, updI, List.map_cons, List.map_nil, eq_self, if_true, if_false, reduceIte, Nat.add_eq_left, Nat.left_eq_add, Nat.reduceEqDiff, List.set_cons_zero, List.set_cons_succ, hG] at hO); clear hG; have hF := hO; (try simp only [Own, Item.Holds, apartI, CellsAt, Nat.reduceAdd, Nat.zero_add, List.mem_cons, List.not_mem_nil, or_false, forall_eq_or_imp, forall_eq, ne_eq, false_imp_iff, implies_true, and_true] at hF)) | (go_at_call 52; apply own_at hO; (repeat (first | (with_reducible exact hO) | (with_reducible apply Own.alloc) | (with_reducible apply Own.drew) | ((with_reducible apply Own.set_at); (focus (show _ ≤ _; omega))))); have hG := hF; clear hF; clear hO; intro hO; refine own_call hO (fun hB => HV.out _) ?_; clear hO; intro w1 hO; (try simp only [World.size_alloc1, World.size_drew, Nat.reduceAdd] at hO); (try simp only [upd, updI, List.map_cons, List.map_nil, eq_self, if_true, if_false, reduceIte, Nat.add_eq_left, Nat.left_eq_add, Nat.reduceEqDiff, List.set_cons_zero, List.set_cons_succ, hG] at hO); clear hG; have hF := hO; (try simp only [Own, Item.Holds, apartI, CellsAt, Nat.reduceAdd, Nat.zero_add, List.mem_cons, List.not_mem_nil, or_false, forall_eq_or_imp, forall_eq, ne_eq, false_imp_iff, implies_true, and_true] at hF)))
      go_ret
      exact RowOut.mk (Own.allocRow (e := 29) (cur := #[]) (k := 0) (cap := 0) 3 (by (repeat (first | (with_reducible exact hO) | (with_reducible apply Own.alloc) | (with_reducible apply Own.drew) | ((with_reducible apply Own.set_at); (focus (show _ ≤ _; omega)))))) (by omega) (by unfold maxLen; omega) rfl)
    · have HV := hid (fun W => pvS_is W (show pvB x.s x.a x.o = true from h2))
      have HY := hid (fun (h4 : ∀ k ∈ fgL 4, pvP (ftT f x k) = true) => ft_yes (f := f) (x := x) (g := 4) h1 h2 (by rw [hg]; simp) h4)
      have HN := hid (fun (h4 : ¬ ∀ k ∈ fgL 4, pvP (ftT f x k) = true) => ft_no (f := f) (x := x) (g := 4) (fun h => h4 h.2.2.2))
      rw [hg] at HY HN
      obtain ⟨_, P0, P1⟩ := plZ_of h2
      obtain ⟨P, hP⟩ : ∃ P, plZ x = P := ⟨_, rfl⟩
      rw [hP] at P0 P1
      have HP := hid (fun W => plS_is hP W)
      have HT := hid (show ∀ k, ftT f x k = plP f (P + k) from fun k => by unfold ftT; rw [hP])
      clear hg h1 h2 hP
      go_enter Tryd.func110, Tryd.ntmps110
      go_wp2_with fail
      have hO1 := Own.allocRow (e := 29) (cur := #[.int .i64 x.s, .int .i64 x.a, .int .i64 x.o]) (k := 1) (cap := 1) 3 (Own.alloc (t := 3) (vs := [.int .i64 3, .int .i64 5]) (Own.alloc (t := 3) (vs := []) (Own.alloc (t := 29) (vs := [.int .i64 x.s, .int .i64 x.a, .int .i64 x.o]) hO))) (Nat.le_refl _) (by unfold maxLen; omega) rfl
      clear hO
      have hO := hO1
      clear hO1
      go_wp2_with (first | (go_at_call 48; apply own_at hO; (repeat (first | (with_reducible exact hO) | (with_reducible apply Own.alloc) | (with_reducible apply Own.drew) | ((with_reducible apply Own.set_at); (focus (show _ ≤ _; omega))))); have hG := hF; clear hF; clear hO; intro hO; refine own_call hO (fun hB => HI.out _) ?_; clear hO; intro w1 hO; (try simp only [World.size_alloc1, World.size_drew, Nat.reduceAdd] at hO); (try simp only [upd, updI, List.map_cons, List.map_nil, eq_self, if_true, if_false, reduceIte, Nat.add_eq_left, Nat.left_eq_add, Nat.reduceEqDiff, List.set_cons_zero, List.set_cons_succ, hG] at hO); clear hG; have hF := hO; (try simp only [Own, Item.Holds, apartI, CellsAt, Nat.reduceAdd, Nat.zero_add, List.mem_cons, List.not_mem_nil, or_false, forall_eq_or_imp, forall_eq, ne_eq, false_imp_iff, implies_true, and_true] at hF)) | (go_at_call 52; apply own_at hO; (repeat (first | (with_reducible exact hO) | (with_reducible apply Own.alloc) | (with_reducible apply Own.drew) | ((with_reducible apply Own.set_at); (focus (show _ ≤ _; omega))))); have hG := hF; clear hF; clear hO; intro hO; refine own_call hO (fun hB => HV.out _) ?_; clear hO; intro w1 hO; (try simp only [World.size_alloc1, World.size_drew, Nat.reduceAdd] at hO); (try simp only [upd, updI, List.map_cons, List.map_nil, eq_self, if_true, if_false, reduceIte, Nat.add_eq_left, Nat.left_eq_add, Nat.reduceEqDiff, List.set_cons_zero, List.set_cons_succ, hG] at hO); clear hG; have hF := hO; (try simp only [Own, Item.Holds, apartI, CellsAt, Nat.reduceAdd, Nat.zero_add, List.mem_cons, List.not_mem_nil, or_false, forall_eq_or_imp, forall_eq, ne_eq, false_imp_iff, implies_true, and_true] at hF)))
      go_loopw [8, 9] (fun u t wr => ∃ j : Nat, j ≤ 2 ∧ t = .int .i64 j ∧ Hid (∀ k ∈ [3, 5].take j, pvP (ftT f x k) = true) ∧ Own w.heap.size (Below w.heap.size w) wr [.row 29 3 u (j + 1) (pcC (x :: ([3, 5].take j).map (ftT f x))), .blk (w.heap.size + 1 + 1) [.int .i64 3, .int .i64 5], .blk (w.heap.size + 1) [], .blk w.heap.size [.int .i64 x.s, .int .i64 x.a, .int .i64 x.o]]) (fun _ t _ => 2 - (intOf t).toNat)
      case atStart => exact ⟨0, by omega, rfl, fun k hk => by simp at hk, hO⟩
      case round =>
        clear hO hF
        obtain ⟨j, hj, rfl, hok, hO⟩ := hrel
        have hF := hO; (try simp only [Own, Item.Holds, apartI, CellsAt, Nat.reduceAdd, Nat.zero_add, List.mem_cons, List.not_mem_nil, or_false, forall_eq_or_imp, forall_eq, ne_eq, false_imp_iff, implies_true, and_true] at hF)
        by_cases he : j = 2
        · subst he
          have HE := hid (show ftL f x 4 = x :: ([3, 5].take 2).map (ftT f x) ∧ (x :: ([3, 5].take 2).map (ftT f x)).length = 2 + 1 from ⟨HY.out hok.out, rfl⟩)
          go_wp2_with fail
          go_ret
          rw [HE.out.1, HE.out.2]
          exact RowOut.mk hO
        · have hjl : j < 2 := by omega
          have hjl2 : (j : Int) < 2 := by omega
          have hj0 : (0 : Int) ≤ (j : Int) := by omega
          obtain ⟨k, hk⟩ : ∃ k : Int, ([3, 5] : List Int)[j]? = some k := ⟨_, List.getElem?_eq_getElem hjl⟩
          have hkb : 2 ≤ k ∧ k ≤ 6 := fg_bd (g := 4) (by rw [show fgL 4 = [3, 5] from rfl]; exact List.mem_of_getElem? hk)
          have HK := hid hk
          have hTk := HT.out k
          obtain ⟨q, hq⟩ : ∃ q, P + k = q := ⟨_, rfl⟩
          have q0 : 0 ≤ q := by omega
          have q1 : q ≤ 70 := by omega
          rw [hq] at hTk
          have wq : IntKind.i64.wrap (P + k) = q := by rw [hq]; exact IntWalk.i64_in _ (by omega)
          have wq2 : IntKind.i64.wrap q = q := IntWalk.i64_in _ (by omega)
          have te : q.tmod 7 = q % 7 := Int.tmod_eq_emod_of_nonneg q0
          have td : q.tdiv 7 = q / 7 := Int.tdiv_eq_ediv_of_nonneg q0
          obtain ⟨s, hs⟩ : ∃ s, q % 7 = s := ⟨_, rfl⟩
          obtain ⟨o, ho⟩ : ∃ s, q / 7 = s := ⟨_, rfl⟩
          obtain ⟨a, ha⟩ : ∃ a, altZ f s = a := ⟨_, rfl⟩
          have s0 : 0 ≤ s := by omega
          have s6 : s ≤ 6 := by omega
          rw [hs] at te
          rw [ho] at td
          have ws : IntKind.i64.wrap s = s := IntWalk.i64_in _ (by omega)
          have wo : IntKind.i64.wrap o = o := IntWalk.i64_in _ (by omega)
          have HA := hid (fun W => alS_is s0 s6 ha W)
          have HTK := hid (show ftT f x k = ⟨s, a, o⟩ by rw [hTk]; unfold plP; rw [hs, ho, ha])
          clear he hk hTk ha
          obtain ⟨b, hb⟩ : ∃ b, pvB s a o = b := ⟨_, rfl⟩
          have HB := hid (fun W => pvS_is W hb)
          go_wp2_with fail
          apply own_code hO
          (repeat (first | (with_reducible exact hO) | (with_reducible apply Own.alloc) | (with_reducible apply Own.drew) | ((with_reducible apply Own.set_at); (focus (show _ ≤ _; omega)))))
          have hG := hF; clear hF; clear hO; intro hO
          (try simp only [World.size_alloc1, World.size_drew, Nat.reduceAdd] at hO); (try simp only [upd, updI, List.map_cons, List.map_nil, eq_self, if_true, if_false, reduceIte, Nat.add_eq_left, Nat.left_eq_add, Nat.reduceEqDiff, List.set_cons_zero, List.set_cons_succ, hG] at hO); clear hG
          refine region_own (X := fun _ => True) [] (by kernel_rfl) (hO) (trivial) (by first | exact XStab.true | exact XStab.rd | exact XStab.rdIf) ?_
          clear hO
          refine Sim.sO (i := 0) (d := some 48) (v := ?_) (hy := ?_) (h := ?_)
          rotate_left
          · first | refine Or.inl ⟨by rfl, fun w hO => ?_⟩ | (refine Or.inr ⟨by rfl, ?_⟩; with_reducible rfl)
            first | done | (have hF := hO; (try simp only [Own, Item.Holds, apartI, CellsAt, Nat.reduceAdd, Nat.zero_add, List.mem_cons, List.not_mem_nil, or_false, forall_eq_or_imp, forall_eq, ne_eq, false_imp_iff, implies_true, and_true] at hF); ((have c0 := own_ints [3, 5] hO (List.mem_cons_of_mem _ List.mem_cons_self) HK.out)); refine Out.same ?_; go_simp; all_goals with_reducible rfl)
          refine Sim.sO (i := 1) (d := some 49) (v := ?_) (hy := ?_) (h := ?_)
          rotate_left
          · first | refine Or.inl ⟨by rfl, fun w hO => ?_⟩ | (refine Or.inr ⟨by rfl, ?_⟩; with_reducible rfl)
            first | done | (refine Out.call (f := 125) (args := ?_) ?_ ?_; rotate_left; (focus (go_simp; all_goals with_reducible rfl)); exact HP.out _)
          refine Sim.sP (i := 2) (d := some 50) (h := ?_)
          refine Sim.sP (i := 3) (d := some 51) (h := ?_)
          refine Sim.sP (i := 4) (d := some 52) (h := ?_)
          refine Sim.sO (i := 5) (d := some 53) (v := ?_) (hy := ?_) (h := ?_)
          rotate_left
          · first | refine Or.inl ⟨by rfl, fun w hO => ?_⟩ | (refine Or.inr ⟨by rfl, ?_⟩; with_reducible rfl)
            first | done | (have hF := hO; (try simp only [Own, Item.Holds, apartI, CellsAt, Nat.reduceAdd, Nat.zero_add, List.mem_cons, List.not_mem_nil, or_false, forall_eq_or_imp, forall_eq, ne_eq, false_imp_iff, implies_true, and_true] at hF); ((have c0 := own_ints [3, 5] hO (List.mem_cons_of_mem _ List.mem_cons_self) HK.out)); refine Out.same ?_; go_simp; all_goals with_reducible rfl)
          refine Sim.sP (i := 6) (d := some 54) (h := ?_)
          refine Sim.sP (i := 7) (d := some 10) (h := ?_)
          refine Sim.done (by kernel_rfl) (fun w1 hO hX => ?_) _
          (try simp only [World.size_alloc1, World.size_drew, Nat.reduceAdd] at hO); (try simp only [upd, updI, List.map_cons, List.map_nil, eq_self, if_true, if_false, reduceIte, Nat.add_eq_left, Nat.left_eq_add, Nat.reduceEqDiff, List.set_cons_zero, List.set_cons_succ] at hO)
          have hF := hO; (try simp only [Own, Item.Holds, apartI, CellsAt, Nat.reduceAdd, Nat.zero_add, List.mem_cons, List.not_mem_nil, or_false, forall_eq_or_imp, forall_eq, ne_eq, false_imp_iff, implies_true, and_true] at hF)
          all_goals
            cases b
            · have HE := hid (HN.out (fun h => by
                have := h k (List.mem_of_getElem? HK.out)
                rw [HTK.out] at this
                rw [show pvP ⟨s, a, o⟩ = false from hb] at this
                cases this))
              clear hb
              go_wp2_with (first | (go_at_call 88; apply own_at hO; (repeat (first | (with_reducible exact hO) | (with_reducible apply Own.alloc) | (with_reducible apply Own.drew) | ((with_reducible apply Own.set_at); (focus (show _ ≤ _; omega))))); have hG := hF; clear hF; clear hO; intro hO; refine own_call hO (fun hB => HA.out _) ?_; clear hO; intro w1 hO; (try simp only [World.size_alloc1, World.size_drew, Nat.reduceAdd] at hO); (try simp only [upd, updI, List.map_cons, List.map_nil, eq_self, if_true, if_false, reduceIte, Nat.add_eq_left, Nat.left_eq_add, Nat.reduceEqDiff, List.set_cons_zero, List.set_cons_succ, hG] at hO); clear hG; have hF := hO; (try simp only [Own, Item.Holds, apartI, CellsAt, Nat.reduceAdd, Nat.zero_add, List.mem_cons, List.not_mem_nil, or_false, forall_eq_or_imp, forall_eq, ne_eq, false_imp_iff, implies_true, and_true] at hF)) | (go_at_call 52; apply own_at hO; (repeat (first | (with_reducible exact hO) | (with_reducible apply Own.alloc) | (with_reducible apply Own.drew) | ((with_reducible apply Own.set_at); (focus (show _ ≤ _; omega))))); have hG := hF; clear hF; clear hO; intro hO; refine own_call hO (fun hB => HB.out _) ?_; clear hO; intro w1 hO; (try simp only [World.size_alloc1, World.size_drew, Nat.reduceAdd] at hO); (try simp only [upd, updI, List.map_cons, List.map_nil, eq_self, if_true, if_false, reduceIte, Nat.add_eq_left, Nat.left_eq_add, Nat.reduceEqDiff, List.set_cons_zero, List.set_cons_succ, hG] at hO); clear hG; have hF := hO; (try simp only [Own, Item.Holds, apartI, CellsAt, Nat.reduceAdd, Nat.zero_add, List.mem_cons, List.not_mem_nil, or_false, forall_eq_or_imp, forall_eq, ne_eq, false_imp_iff, implies_true, and_true] at hF)))
              go_ret
              rw [HE.out]
              exact RowOut.mk (Own.allocRow (e := 29) (cur := #[]) (k := 0) (cap := 0) 3 (by (repeat (first | (with_reducible exact hO) | (with_reducible apply Own.alloc) | (with_reducible apply Own.drew) | ((with_reducible apply Own.set_at); (focus (show _ ≤ _; omega)))))) (by omega) (by unfold maxLen; omega) rfl)
            · have HU := hid (take_ok HK.out hok.out (by rw [HTK.out]; exact hb))
              have HC := hid (ft_take HK.out HTK.out)
              clear hb
              go_wp2_with (first | (go_at_call 88; apply own_at hO; (repeat (first | (with_reducible exact hO) | (with_reducible apply Own.alloc) | (with_reducible apply Own.drew) | ((with_reducible apply Own.set_at); (focus (show _ ≤ _; omega))))); have hG := hF; clear hF; clear hO; intro hO; refine own_call hO (fun hB => HA.out _) ?_; clear hO; intro w1 hO; (try simp only [World.size_alloc1, World.size_drew, Nat.reduceAdd] at hO); (try simp only [upd, updI, List.map_cons, List.map_nil, eq_self, if_true, if_false, reduceIte, Nat.add_eq_left, Nat.left_eq_add, Nat.reduceEqDiff, List.set_cons_zero, List.set_cons_succ, hG] at hO); clear hG; have hF := hO; (try simp only [Own, Item.Holds, apartI, CellsAt, Nat.reduceAdd, Nat.zero_add, List.mem_cons, List.not_mem_nil, or_false, forall_eq_or_imp, forall_eq, ne_eq, false_imp_iff, implies_true, and_true] at hF)) | (go_at_call 52; apply own_at hO; (repeat (first | (with_reducible exact hO) | (with_reducible apply Own.alloc) | (with_reducible apply Own.drew) | ((with_reducible apply Own.set_at); (focus (show _ ≤ _; omega))))); have hG := hF; clear hF; clear hO; intro hO; refine own_call hO (fun hB => HB.out _) ?_; clear hO; intro w1 hO; (try simp only [World.size_alloc1, World.size_drew, Nat.reduceAdd] at hO); (try simp only [upd, updI, List.map_cons, List.map_nil, eq_self, if_true, if_false, reduceIte, Nat.add_eq_left, Nat.left_eq_add, Nat.reduceEqDiff, List.set_cons_zero, List.set_cons_succ, hG] at hO); clear hG; have hF := hO; (try simp only [Own, Item.Holds, apartI, CellsAt, Nat.reduceAdd, Nat.zero_add, List.mem_cons, List.not_mem_nil, or_false, forall_eq_or_imp, forall_eq, ne_eq, false_imp_iff, implies_true, and_true] at hF)) | (at_builtin; apply own_list hO; (repeat (first | (with_reducible exact hO) | (with_reducible apply Own.alloc) | (with_reducible apply Own.drew) | ((with_reducible apply Own.set_at); (focus (show _ ≤ _; omega))))); have hG := hF; clear hF; clear hO; intro hO; (try simp only [World.size_alloc1, World.size_drew, Nat.reduceAdd] at hO); (try simp only [upd, updI, List.map_cons, List.map_nil, eq_self, if_true, if_false, reduceIte, Nat.add_eq_left, Nat.left_eq_add, Nat.reduceEqDiff, List.set_cons_zero, List.set_cons_succ, hG] at hO); clear hG; (try simp only [World.size_setCell] at hO); have hF := hO; (try simp only [Own, Item.Holds, apartI, CellsAt, Nat.reduceAdd, Nat.zero_add, List.mem_cons, List.not_mem_nil, or_false, forall_eq_or_imp, forall_eq, ne_eq, false_imp_iff, implies_true, and_true] at hF); replace hO := Own.sub (.cons_cons _ (.cons _ (List.Sublist.refl _))) hO; refine wpList_append_item rfl _ _ 23 rfl 29 i0 (.agg #[.int .i64 0, .int .i64 0, .int .i64 0]) 3 24 Tryd.underlying23 hi hz0 hz1 hz2 rfl (by decide) rfl rfl hO rfl one3t (by unfold maxLen; omega) (by omega) ?_; clear hO hF; intro v' w2 hO _; have hF := True.intro))
              go_roundw
              case rel => exact ⟨j + 1, by omega, by go_num, HU.out, by rw [← HC.out]; exact hO⟩
              case measure => simp [intOf]; omega
set_option maxRecDepth 20000 in
set_option maxHeartbeats 8000000 in
theorem ftS_7 (f : Int) (x : Pt) (w : World) :
    Calls Tryd.prog 110 #[.int .i64 f, .agg #[.int .i64 x.s, .int .i64 x.a, .int .i64 x.o], .int .i64 7] w (RowOut 29 3 (ftL f x 7).length (pcC (ftL f x 7)) w) := by
  have hO := Own.start w
  have hF := True.intro
  obtain ⟨i0, hi, hz0, hz1, hz2⟩ := info_parts infoPi
  have hg : fgL 7 = [2, 4, 6] := rfl
  cases h1 : inB f (-7) 7
  · have HE := hid (ft_no (f := f) (x := x) (g := 7) (fun h => by rw [show keyB f = false from h1] at h; cases h.1))
    rw [HE.out]
    have HI := hid (fun W => in_is W h1)
    clear hg h1
    go_enter Tryd.func110, Tryd.ntmps110
    go_wp2_with (go_at_call 48; apply own_at hO; (repeat (first | (with_reducible exact hO) | (with_reducible apply Own.alloc) | (with_reducible apply Own.drew) | ((with_reducible apply Own.set_at); (focus (show _ ≤ _; omega))))); have hG := hF; clear hF; clear hO; intro hO; refine own_call hO (fun hB => HI.out _) ?_; clear hO; intro w1 hO; (try simp only [World.size_alloc1, World.size_drew, Nat.reduceAdd] at hO); (try simp only [upd, updI, List.map_cons, List.map_nil, eq_self, if_true, if_false, reduceIte, Nat.add_eq_left, Nat.left_eq_add, Nat.reduceEqDiff, List.set_cons_zero, List.set_cons_succ, hG] at hO); clear hG; have hF := hO; (try simp only [Own, Item.Holds, apartI, CellsAt, Nat.reduceAdd, Nat.zero_add, List.mem_cons, List.not_mem_nil, or_false, forall_eq_or_imp, forall_eq, ne_eq, false_imp_iff, implies_true, and_true] at hF))
    go_ret
    exact RowOut.mk (Own.allocRow (e := 29) (cur := #[]) (k := 0) (cap := 0) 3 (by (repeat (first | (with_reducible exact hO) | (with_reducible apply Own.alloc) | (with_reducible apply Own.drew) | ((with_reducible apply Own.set_at); (focus (show _ ≤ _; omega)))))) (by omega) (by unfold maxLen; omega) rfl)
  · have HI := hid (fun W => in_is W h1)
    cases h2 : pvP x
    · have HE := hid (ft_no (f := f) (x := x) (g := 7) (fun h => by rw [h2] at h; cases h.2.1))
      rw [HE.out]
      have HV := hid (fun W => pvS_is W (show pvB x.s x.a x.o = false from h2))
      clear hg h1 h2
      go_enter Tryd.func110, Tryd.ntmps110
      go_wp2_with (first | (go_at_call 48; apply own_at hO; (repeat (first | (with_reducible exact hO) | (with_reducible apply Own.alloc) | (with_reducible apply Own.drew) | ((with_reducible apply Own.set_at); (focus (show _ ≤ _; omega))))); have hG := hF; clear hF; clear hO; intro hO; refine own_call hO (fun hB => HI.out _) ?_; clear hO; intro w1 hO; (try simp only [World.size_alloc1, World.size_drew, Nat.reduceAdd] at hO); (try simp only [upd, updI, List.map_cons, List.map_nil, eq_self, if_true, if_false, reduceIte, Nat.add_eq_left, Nat.left_eq_add, Nat.reduceEqDiff, List.set_cons_zero, List.set_cons_succ, hG] at hO); clear hG; have hF := hO; (try simp only [Own, Item.Holds, apartI, CellsAt, Nat.reduceAdd, Nat.zero_add, List.mem_cons, List.not_mem_nil, or_false, forall_eq_or_imp, forall_eq, ne_eq, false_imp_iff, implies_true, and_true] at hF)) | (go_at_call 52; apply own_at hO; (repeat (first | (with_reducible exact hO) | (with_reducible apply Own.alloc) | (with_reducible apply Own.drew) | ((with_reducible apply Own.set_at); (focus (show _ ≤ _; omega))))); have hG := hF; clear hF; clear hO; intro hO; refine own_call hO (fun hB => HV.out _) ?_; clear hO; intro w1 hO; (try simp only [World.size_alloc1, World.size_drew, Nat.reduceAdd] at hO); (try simp only [upd, updI, List.map_cons, List.map_nil, eq_self, if_true, if_false, reduceIte, Nat.add_eq_left, Nat.left_eq_add, Nat.reduceEqDiff, List.set_cons_zero, List.set_cons_succ, hG] at hO); clear hG; have hF := hO; (try simp only [Own, Item.Holds, apartI, CellsAt, Nat.reduceAdd, Nat.zero_add, List.mem_cons, List.not_mem_nil, or_false, forall_eq_or_imp, forall_eq, ne_eq, false_imp_iff, implies_true, and_true] at hF)))
      go_ret
      exact RowOut.mk (Own.allocRow (e := 29) (cur := #[]) (k := 0) (cap := 0) 3 (by (repeat (first | (with_reducible exact hO) | (with_reducible apply Own.alloc) | (with_reducible apply Own.drew) | ((with_reducible apply Own.set_at); (focus (show _ ≤ _; omega)))))) (by omega) (by unfold maxLen; omega) rfl)
    · have HV := hid (fun W => pvS_is W (show pvB x.s x.a x.o = true from h2))
      have HY := hid (fun (h4 : ∀ k ∈ fgL 7, pvP (ftT f x k) = true) => ft_yes (f := f) (x := x) (g := 7) h1 h2 (by rw [hg]; simp) h4)
      have HN := hid (fun (h4 : ¬ ∀ k ∈ fgL 7, pvP (ftT f x k) = true) => ft_no (f := f) (x := x) (g := 7) (fun h => h4 h.2.2.2))
      rw [hg] at HY HN
      obtain ⟨_, P0, P1⟩ := plZ_of h2
      obtain ⟨P, hP⟩ : ∃ P, plZ x = P := ⟨_, rfl⟩
      rw [hP] at P0 P1
      have HP := hid (fun W => plS_is hP W)
      have HT := hid (show ∀ k, ftT f x k = plP f (P + k) from fun k => by unfold ftT; rw [hP])
      clear hg h1 h2 hP
      go_enter Tryd.func110, Tryd.ntmps110
      go_wp2_with fail
      have hO1 := Own.allocRow (e := 29) (cur := #[.int .i64 x.s, .int .i64 x.a, .int .i64 x.o]) (k := 1) (cap := 1) 3 (Own.alloc (t := 3) (vs := [.int .i64 2, .int .i64 4, .int .i64 6]) (Own.alloc (t := 3) (vs := []) (Own.alloc (t := 29) (vs := [.int .i64 x.s, .int .i64 x.a, .int .i64 x.o]) hO))) (Nat.le_refl _) (by unfold maxLen; omega) rfl
      clear hO
      have hO := hO1
      clear hO1
      go_wp2_with (first | (go_at_call 48; apply own_at hO; (repeat (first | (with_reducible exact hO) | (with_reducible apply Own.alloc) | (with_reducible apply Own.drew) | ((with_reducible apply Own.set_at); (focus (show _ ≤ _; omega))))); have hG := hF; clear hF; clear hO; intro hO; refine own_call hO (fun hB => HI.out _) ?_; clear hO; intro w1 hO; (try simp only [World.size_alloc1, World.size_drew, Nat.reduceAdd] at hO); (try simp only [upd, updI, List.map_cons, List.map_nil, eq_self, if_true, if_false, reduceIte, Nat.add_eq_left, Nat.left_eq_add, Nat.reduceEqDiff, List.set_cons_zero, List.set_cons_succ, hG] at hO); clear hG; have hF := hO; (try simp only [Own, Item.Holds, apartI, CellsAt, Nat.reduceAdd, Nat.zero_add, List.mem_cons, List.not_mem_nil, or_false, forall_eq_or_imp, forall_eq, ne_eq, false_imp_iff, implies_true, and_true] at hF)) | (go_at_call 52; apply own_at hO; (repeat (first | (with_reducible exact hO) | (with_reducible apply Own.alloc) | (with_reducible apply Own.drew) | ((with_reducible apply Own.set_at); (focus (show _ ≤ _; omega))))); have hG := hF; clear hF; clear hO; intro hO; refine own_call hO (fun hB => HV.out _) ?_; clear hO; intro w1 hO; (try simp only [World.size_alloc1, World.size_drew, Nat.reduceAdd] at hO); (try simp only [upd, updI, List.map_cons, List.map_nil, eq_self, if_true, if_false, reduceIte, Nat.add_eq_left, Nat.left_eq_add, Nat.reduceEqDiff, List.set_cons_zero, List.set_cons_succ, hG] at hO); clear hG; have hF := hO; (try simp only [Own, Item.Holds, apartI, CellsAt, Nat.reduceAdd, Nat.zero_add, List.mem_cons, List.not_mem_nil, or_false, forall_eq_or_imp, forall_eq, ne_eq, false_imp_iff, implies_true, and_true] at hF)))
      go_loopw [8, 9] (fun u t wr => ∃ j : Nat, j ≤ 3 ∧ t = .int .i64 j ∧ Hid (∀ k ∈ [2, 4, 6].take j, pvP (ftT f x k) = true) ∧ Own w.heap.size (Below w.heap.size w) wr [.row 29 3 u (j + 1) (pcC (x :: ([2, 4, 6].take j).map (ftT f x))), .blk (w.heap.size + 1 + 1) [.int .i64 2, .int .i64 4, .int .i64 6], .blk (w.heap.size + 1) [], .blk w.heap.size [.int .i64 x.s, .int .i64 x.a, .int .i64 x.o]]) (fun _ t _ => 3 - (intOf t).toNat)
      case atStart => exact ⟨0, by omega, rfl, fun k hk => by simp at hk, hO⟩
      case round =>
        clear hO hF
        obtain ⟨j, hj, rfl, hok, hO⟩ := hrel
        have hF := hO; (try simp only [Own, Item.Holds, apartI, CellsAt, Nat.reduceAdd, Nat.zero_add, List.mem_cons, List.not_mem_nil, or_false, forall_eq_or_imp, forall_eq, ne_eq, false_imp_iff, implies_true, and_true] at hF)
        by_cases he : j = 3
        · subst he
          have HE := hid (show ftL f x 7 = x :: ([2, 4, 6].take 3).map (ftT f x) ∧ (x :: ([2, 4, 6].take 3).map (ftT f x)).length = 3 + 1 from ⟨HY.out hok.out, rfl⟩)
          go_wp2_with fail
          go_ret
          rw [HE.out.1, HE.out.2]
          exact RowOut.mk hO
        · have hjl : j < 3 := by omega
          have hjl2 : (j : Int) < 3 := by omega
          have hj0 : (0 : Int) ≤ (j : Int) := by omega
          obtain ⟨k, hk⟩ : ∃ k : Int, ([2, 4, 6] : List Int)[j]? = some k := ⟨_, List.getElem?_eq_getElem hjl⟩
          have hkb : 2 ≤ k ∧ k ≤ 6 := fg_bd (g := 7) (by rw [show fgL 7 = [2, 4, 6] from rfl]; exact List.mem_of_getElem? hk)
          have HK := hid hk
          have hTk := HT.out k
          obtain ⟨q, hq⟩ : ∃ q, P + k = q := ⟨_, rfl⟩
          have q0 : 0 ≤ q := by omega
          have q1 : q ≤ 70 := by omega
          rw [hq] at hTk
          have wq : IntKind.i64.wrap (P + k) = q := by rw [hq]; exact IntWalk.i64_in _ (by omega)
          have wq2 : IntKind.i64.wrap q = q := IntWalk.i64_in _ (by omega)
          have te : q.tmod 7 = q % 7 := Int.tmod_eq_emod_of_nonneg q0
          have td : q.tdiv 7 = q / 7 := Int.tdiv_eq_ediv_of_nonneg q0
          obtain ⟨s, hs⟩ : ∃ s, q % 7 = s := ⟨_, rfl⟩
          obtain ⟨o, ho⟩ : ∃ s, q / 7 = s := ⟨_, rfl⟩
          obtain ⟨a, ha⟩ : ∃ a, altZ f s = a := ⟨_, rfl⟩
          have s0 : 0 ≤ s := by omega
          have s6 : s ≤ 6 := by omega
          rw [hs] at te
          rw [ho] at td
          have ws : IntKind.i64.wrap s = s := IntWalk.i64_in _ (by omega)
          have wo : IntKind.i64.wrap o = o := IntWalk.i64_in _ (by omega)
          have HA := hid (fun W => alS_is s0 s6 ha W)
          have HTK := hid (show ftT f x k = ⟨s, a, o⟩ by rw [hTk]; unfold plP; rw [hs, ho, ha])
          clear he hk hTk ha
          obtain ⟨b, hb⟩ : ∃ b, pvB s a o = b := ⟨_, rfl⟩
          have HB := hid (fun W => pvS_is W hb)
          go_wp2_with fail
          apply own_code hO
          (repeat (first | (with_reducible exact hO) | (with_reducible apply Own.alloc) | (with_reducible apply Own.drew) | ((with_reducible apply Own.set_at); (focus (show _ ≤ _; omega)))))
          have hG := hF; clear hF; clear hO; intro hO
          (try simp only [World.size_alloc1, World.size_drew, Nat.reduceAdd] at hO); (try simp only [upd, updI, List.map_cons, List.map_nil, eq_self, if_true, if_false, reduceIte, Nat.add_eq_left, Nat.left_eq_add, Nat.reduceEqDiff, List.set_cons_zero, List.set_cons_succ, hG] at hO); clear hG
          refine region_own (X := fun _ => True) [] (by kernel_rfl) (hO) (trivial) (by first | exact XStab.true | exact XStab.rd | exact XStab.rdIf) ?_
          clear hO
          refine Sim.sO (i := 0) (d := some 48) (v := ?_) (hy := ?_) (h := ?_)
          rotate_left
          · first | refine Or.inl ⟨by rfl, fun w hO => ?_⟩ | (refine Or.inr ⟨by rfl, ?_⟩; with_reducible rfl)
            first | done | (have hF := hO; (try simp only [Own, Item.Holds, apartI, CellsAt, Nat.reduceAdd, Nat.zero_add, List.mem_cons, List.not_mem_nil, or_false, forall_eq_or_imp, forall_eq, ne_eq, false_imp_iff, implies_true, and_true] at hF); ((have c0 := own_ints [2, 4, 6] hO (List.mem_cons_of_mem _ List.mem_cons_self) HK.out)); refine Out.same ?_; go_simp; all_goals with_reducible rfl)
          refine Sim.sO (i := 1) (d := some 49) (v := ?_) (hy := ?_) (h := ?_)
          rotate_left
          · first | refine Or.inl ⟨by rfl, fun w hO => ?_⟩ | (refine Or.inr ⟨by rfl, ?_⟩; with_reducible rfl)
            first | done | (refine Out.call (f := 125) (args := ?_) ?_ ?_; rotate_left; (focus (go_simp; all_goals with_reducible rfl)); exact HP.out _)
          refine Sim.sP (i := 2) (d := some 50) (h := ?_)
          refine Sim.sP (i := 3) (d := some 51) (h := ?_)
          refine Sim.sP (i := 4) (d := some 52) (h := ?_)
          refine Sim.sO (i := 5) (d := some 53) (v := ?_) (hy := ?_) (h := ?_)
          rotate_left
          · first | refine Or.inl ⟨by rfl, fun w hO => ?_⟩ | (refine Or.inr ⟨by rfl, ?_⟩; with_reducible rfl)
            first | done | (have hF := hO; (try simp only [Own, Item.Holds, apartI, CellsAt, Nat.reduceAdd, Nat.zero_add, List.mem_cons, List.not_mem_nil, or_false, forall_eq_or_imp, forall_eq, ne_eq, false_imp_iff, implies_true, and_true] at hF); ((have c0 := own_ints [2, 4, 6] hO (List.mem_cons_of_mem _ List.mem_cons_self) HK.out)); refine Out.same ?_; go_simp; all_goals with_reducible rfl)
          refine Sim.sP (i := 6) (d := some 54) (h := ?_)
          refine Sim.sP (i := 7) (d := some 10) (h := ?_)
          refine Sim.done (by kernel_rfl) (fun w1 hO hX => ?_) _
          (try simp only [World.size_alloc1, World.size_drew, Nat.reduceAdd] at hO); (try simp only [upd, updI, List.map_cons, List.map_nil, eq_self, if_true, if_false, reduceIte, Nat.add_eq_left, Nat.left_eq_add, Nat.reduceEqDiff, List.set_cons_zero, List.set_cons_succ] at hO)
          have hF := hO; (try simp only [Own, Item.Holds, apartI, CellsAt, Nat.reduceAdd, Nat.zero_add, List.mem_cons, List.not_mem_nil, or_false, forall_eq_or_imp, forall_eq, ne_eq, false_imp_iff, implies_true, and_true] at hF)
          all_goals
            cases b
            · have HE := hid (HN.out (fun h => by
                have := h k (List.mem_of_getElem? HK.out)
                rw [HTK.out] at this
                rw [show pvP ⟨s, a, o⟩ = false from hb] at this
                cases this))
              clear hb
              go_wp2_with (first | (go_at_call 88; apply own_at hO; (repeat (first | (with_reducible exact hO) | (with_reducible apply Own.alloc) | (with_reducible apply Own.drew) | ((with_reducible apply Own.set_at); (focus (show _ ≤ _; omega))))); have hG := hF; clear hF; clear hO; intro hO; refine own_call hO (fun hB => HA.out _) ?_; clear hO; intro w1 hO; (try simp only [World.size_alloc1, World.size_drew, Nat.reduceAdd] at hO); (try simp only [upd, updI, List.map_cons, List.map_nil, eq_self, if_true, if_false, reduceIte, Nat.add_eq_left, Nat.left_eq_add, Nat.reduceEqDiff, List.set_cons_zero, List.set_cons_succ, hG] at hO); clear hG; have hF := hO; (try simp only [Own, Item.Holds, apartI, CellsAt, Nat.reduceAdd, Nat.zero_add, List.mem_cons, List.not_mem_nil, or_false, forall_eq_or_imp, forall_eq, ne_eq, false_imp_iff, implies_true, and_true] at hF)) | (go_at_call 52; apply own_at hO; (repeat (first | (with_reducible exact hO) | (with_reducible apply Own.alloc) | (with_reducible apply Own.drew) | ((with_reducible apply Own.set_at); (focus (show _ ≤ _; omega))))); have hG := hF; clear hF; clear hO; intro hO; refine own_call hO (fun hB => HB.out _) ?_; clear hO; intro w1 hO; (try simp only [World.size_alloc1, World.size_drew, Nat.reduceAdd] at hO); (try simp only [upd, updI, List.map_cons, List.map_nil, eq_self, if_true, if_false, reduceIte, Nat.add_eq_left, Nat.left_eq_add, Nat.reduceEqDiff, List.set_cons_zero, List.set_cons_succ, hG] at hO); clear hG; have hF := hO; (try simp only [Own, Item.Holds, apartI, CellsAt, Nat.reduceAdd, Nat.zero_add, List.mem_cons, List.not_mem_nil, or_false, forall_eq_or_imp, forall_eq, ne_eq, false_imp_iff, implies_true, and_true] at hF)))
              go_ret
              rw [HE.out]
              exact RowOut.mk (Own.allocRow (e := 29) (cur := #[]) (k := 0) (cap := 0) 3 (by (repeat (first | (with_reducible exact hO) | (with_reducible apply Own.alloc) | (with_reducible apply Own.drew) | ((with_reducible apply Own.set_at); (focus (show _ ≤ _; omega)))))) (by omega) (by unfold maxLen; omega) rfl)
            · have HU := hid (take_ok HK.out hok.out (by rw [HTK.out]; exact hb))
              have HC := hid (ft_take HK.out HTK.out)
              clear hb
              go_wp2_with (first | (go_at_call 88; apply own_at hO; (repeat (first | (with_reducible exact hO) | (with_reducible apply Own.alloc) | (with_reducible apply Own.drew) | ((with_reducible apply Own.set_at); (focus (show _ ≤ _; omega))))); have hG := hF; clear hF; clear hO; intro hO; refine own_call hO (fun hB => HA.out _) ?_; clear hO; intro w1 hO; (try simp only [World.size_alloc1, World.size_drew, Nat.reduceAdd] at hO); (try simp only [upd, updI, List.map_cons, List.map_nil, eq_self, if_true, if_false, reduceIte, Nat.add_eq_left, Nat.left_eq_add, Nat.reduceEqDiff, List.set_cons_zero, List.set_cons_succ, hG] at hO); clear hG; have hF := hO; (try simp only [Own, Item.Holds, apartI, CellsAt, Nat.reduceAdd, Nat.zero_add, List.mem_cons, List.not_mem_nil, or_false, forall_eq_or_imp, forall_eq, ne_eq, false_imp_iff, implies_true, and_true] at hF)) | (go_at_call 52; apply own_at hO; (repeat (first | (with_reducible exact hO) | (with_reducible apply Own.alloc) | (with_reducible apply Own.drew) | ((with_reducible apply Own.set_at); (focus (show _ ≤ _; omega))))); have hG := hF; clear hF; clear hO; intro hO; refine own_call hO (fun hB => HB.out _) ?_; clear hO; intro w1 hO; (try simp only [World.size_alloc1, World.size_drew, Nat.reduceAdd] at hO); (try simp only [upd, updI, List.map_cons, List.map_nil, eq_self, if_true, if_false, reduceIte, Nat.add_eq_left, Nat.left_eq_add, Nat.reduceEqDiff, List.set_cons_zero, List.set_cons_succ, hG] at hO); clear hG; have hF := hO; (try simp only [Own, Item.Holds, apartI, CellsAt, Nat.reduceAdd, Nat.zero_add, List.mem_cons, List.not_mem_nil, or_false, forall_eq_or_imp, forall_eq, ne_eq, false_imp_iff, implies_true, and_true] at hF)) | (at_builtin; apply own_list hO; (repeat (first | (with_reducible exact hO) | (with_reducible apply Own.alloc) | (with_reducible apply Own.drew) | ((with_reducible apply Own.set_at); (focus (show _ ≤ _; omega))))); have hG := hF; clear hF; clear hO; intro hO; (try simp only [World.size_alloc1, World.size_drew, Nat.reduceAdd] at hO); (try simp only [upd, updI, List.map_cons, List.map_nil, eq_self, if_true, if_false, reduceIte, Nat.add_eq_left, Nat.left_eq_add, Nat.reduceEqDiff, List.set_cons_zero, List.set_cons_succ, hG] at hO); clear hG; (try simp only [World.size_setCell] at hO); have hF := hO; (try simp only [Own, Item.Holds, apartI, CellsAt, Nat.reduceAdd, Nat.zero_add, List.mem_cons, List.not_mem_nil, or_false, forall_eq_or_imp, forall_eq, ne_eq, false_imp_iff, implies_true, and_true] at hF); replace hO := Own.sub (.cons_cons _ (.cons _ (List.Sublist.refl _))) hO; refine wpList_append_item rfl _ _ 23 rfl 29 i0 (.agg #[.int .i64 0, .int .i64 0, .int .i64 0]) 3 24 Tryd.underlying23 hi hz0 hz1 hz2 rfl (by decide) rfl rfl hO rfl one3t (by unfold maxLen; omega) (by omega) ?_; clear hO hF; intro v' w2 hO _; have hF := True.intro))
              go_roundw
              case rel => exact ⟨j + 1, by omega, by go_num, HU.out, by rw [← HC.out]; exact hO⟩
              case measure => simp [intOf]; omega
set_option maxHeartbeats 4000000 in
theorem ftS_any (f : Int) (x : Pt) (g : Int) (w : World) :
    Calls Tryd.prog 110 #[.int .i64 f, .agg #[.int .i64 x.s, .int .i64 x.a, .int .i64 x.o], .int .i64 g] w (RowOut 29 3 (ftL f x g).length (pcC (ftL f x g)) w) := by
  rcases fg_cases g with ⟨rfl, hg⟩ | ⟨rfl, hg⟩ | ⟨rfl, hg⟩ | ⟨rfl, hg⟩ | ⟨h5, h6, h4, h7, hg⟩
  · exact ftS_5 f x w
  · exact ftS_6 f x w
  · exact ftS_4 f x w
  · exact ftS_7 f x w
  · have hO := Own.start w
    have hF := True.intro
    have HE := hid (show ftL f x g = [] from ft_no fun h => h.2.2.1 hg)
    have g5 : (g == 5) = false := by simp; omega
    have g6 : (g == 6) = false := by simp; omega
    have g4 : (g == 4) = false := by simp; omega
    have g7 : (g == 7) = false := by simp; omega
    clear hg
    obtain ⟨b1, hb1⟩ : ∃ b, inB f (-7) 7 = b := ⟨_, rfl⟩
    obtain ⟨b2, hb2⟩ : ∃ b, pvB x.s x.a x.o = b := ⟨_, rfl⟩
    have HI := hid (fun W => in_is W hb1)
    have HV := hid (fun W => pvS_is W hb2)
    clear hb1 hb2
    rw [HE.out]
    cases b1 <;> cases b2
    all_goals
      go_enter Tryd.func110, Tryd.ntmps110
      go_wp2_with (first | (go_at_call 48; apply own_at hO; (repeat (first | (with_reducible exact hO) | (with_reducible apply Own.alloc) | (with_reducible apply Own.drew) | ((with_reducible apply Own.set_at); (focus (show _ ≤ _; omega))))); have hG := hF; clear hF; clear hO; intro hO; refine own_call hO (fun hB => HI.out _) ?_; clear hO; intro w1 hO; (try simp only [World.size_alloc1, World.size_drew, Nat.reduceAdd] at hO); (try simp only [upd, updI, List.map_cons, List.map_nil, eq_self, if_true, if_false, reduceIte, Nat.add_eq_left, Nat.left_eq_add, Nat.reduceEqDiff, List.set_cons_zero, List.set_cons_succ, hG] at hO); clear hG; have hF := hO; (try simp only [Own, Item.Holds, apartI, CellsAt, Nat.reduceAdd, Nat.zero_add, List.mem_cons, List.not_mem_nil, or_false, forall_eq_or_imp, forall_eq, ne_eq, false_imp_iff, implies_true, and_true] at hF)) | (go_at_call 52; apply own_at hO; (repeat (first | (with_reducible exact hO) | (with_reducible apply Own.alloc) | (with_reducible apply Own.drew) | ((with_reducible apply Own.set_at); (focus (show _ ≤ _; omega))))); have hG := hF; clear hF; clear hO; intro hO; refine own_call hO (fun hB => HV.out _) ?_; clear hO; intro w1 hO; (try simp only [World.size_alloc1, World.size_drew, Nat.reduceAdd] at hO); (try simp only [upd, updI, List.map_cons, List.map_nil, eq_self, if_true, if_false, reduceIte, Nat.add_eq_left, Nat.left_eq_add, Nat.reduceEqDiff, List.set_cons_zero, List.set_cons_succ, hG] at hO); clear hG; have hF := hO; (try simp only [Own, Item.Holds, apartI, CellsAt, Nat.reduceAdd, Nat.zero_add, List.mem_cons, List.not_mem_nil, or_false, forall_eq_or_imp, forall_eq, ne_eq, false_imp_iff, implies_true, and_true] at hF)))
      go_ret
      exact RowOut.mk (Own.allocRow (e := 29) (cur := #[]) (k := 0) (cap := 0) 3 (by (repeat (first | (with_reducible exact hO) | (with_reducible apply Own.alloc) | (with_reducible apply Own.drew) | ((with_reducible apply Own.set_at); (focus (show _ ≤ _; omega)))))) (by omega) (by unfold maxLen; omega) rfl)

/- What FigureTones answers, as a contract. -/
open Go.RowKit

def CFt (h : FuncId) (w : World) : Prop := ∀ (f : Int) (x : Pt) (g : Int) (W : World), Below w.heap.size w W → r64 f → p64s x → r64 g →
  Calls Tryd.prog h #[.int .i64 f, .agg #[.int .i64 x.s, .int .i64 x.a, .int .i64 x.o], .int .i64 g] W (RowOut 29 3 (ftL f x g).length (pcC (ftL f x g)) W)
theorem CFt.to {h : FuncId} {w wd : World} (hc : CFt h w) (hb : Below w.heap.size w wd) : CFt h wd := fun f x g W hW => hc f x g W (btr hb hW)
theorem CFt.is {h : FuncId} {w : World} (hc : CFt h w) {f : Int} {x : Pt} {g : Int} {T : List Pt} {q : Nat} (hf : r64 f) (hx : p64s x) (hg : r64 g) (hT : ftL f x g = T) (hq : T.length = q) (W : World) (hW : Below w.heap.size w W) :
    Calls Tryd.prog h #[.int .i64 f, .agg #[.int .i64 x.s, .int .i64 x.a, .int .i64 x.o], .int .i64 g] W (RowOut 29 3 q (pcC T) W) := by
  subst hT hq; exact hc f x g W hW hf hx hg
theorem ftS_C (w : World) : CFt 110 w := fun f x g W _ _ _ _ => ftS_any f x g W

/- Chapter 13 in the model: a chord has all tones; faults of realized basses. -/
open Go.RowKit

theorem all_up {l : List Pt} {p : Pt → Bool} {n : Nat} (hn : l.length = n) (h : ∀ (i : Nat) (x : Pt), i < n → l[i]? = some x → p x = true) : l.all p = true := by
  rw [List.all_eq_true]
  intro x hx
  obtain ⟨i, hi, rfl⟩ := List.getElem_of_mem hx
  exact h i _ (by omega) (List.getElem?_eq_getElem hi)
theorem all_bad {l : List Pt} {p : Pt → Bool} {i : Nat} {x : Pt} (hx : l[i]? = some x) (h : p x = false) : l.all p = false := by
  rw [← Bool.not_eq_true, List.all_eq_true]
  intro hc
  have := hc x (List.mem_of_getElem? hx)
  rw [h] at this
  cases this

set_option maxRecDepth 8000 in
set_option maxHeartbeats 4000000 in
theorem fuS_any (va vb : Value) (l ts : List Pt) (w : World) (hs : SlAt w va l.length 3 (pcC l)) (ht : SlAt w vb ts.length 3 (pcC ts)) (hn : l.length ≤ 1048576) (hm : ts.length ≤ 1048576) :
    Calls Tryd.prog 111 #[va, vb] w fun e w' => e = .returned (.bool (ts.all (hasB l))) ∧ Below w.heap.size w w' := by
  have hO := Own.start w
  have hF := True.intro
  obtain ⟨A, c, rfl, _, _⟩ := hs.open
  obtain ⟨A', c', rfl, nb, hA⟩ := ht.open
  have HL := hid hs
  have HA := hid ht
  clear hs ht
  obtain ⟨m, hml⟩ : ∃ n, l.length = n := ⟨_, rfl⟩
  obtain ⟨n, hnl⟩ : ∃ n, ts.length = n := ⟨_, rfl⟩
  have HN := hid hnl
  have HM := hid hml
  rw [hnl] at hm nb hA HA ⊢
  rw [hml] at hn HL ⊢
  clear hnl hml
  go_enter Tryd.func111, Tryd.ntmps111
  go_wp2_with fail
  go_loopw [5] (fun t wr => ∃ j : Nat, j ≤ n ∧ t = .int .i64 j ∧ Hid (∀ (i : Nat) (x : Pt), i < j → ts[i]? = some x → hasB l x = true) ∧ Own w.heap.size (Below w.heap.size w) wr []) (fun t _ => n - (intOf t).toNat)
  case atStart => exact ⟨0, by omega, rfl, fun i x h => by omega, hO⟩
  case round =>
    clear hO hF
    obtain ⟨j, hj, rfl, hno, hO⟩ := hrel
    have hF := hO; (try simp only [Own, Item.Holds, apartI, CellsAt, Nat.reduceAdd, Nat.zero_add, List.mem_cons, List.not_mem_nil, or_false, forall_eq_or_imp, forall_eq, ne_eq, false_imp_iff, implies_true, and_true] at hF)
    by_cases he : j = n
    · subst he
      have HE := hid (show ts.all (hasB l) = true from all_up HN.out hno.out)
      go_wp2_with fail
      go_ret
      exact ⟨ret_bool HE.out.symm, hO.base⟩
    · have hlt : j < n := by omega
      have hlt2 : (j : Int) < n := by omega
      obtain ⟨b, off, rfl, hc1, hc2, hb⟩ := hA (by omega)
      obtain ⟨x, hx⟩ : ∃ x, ts[j]? = some x := ⟨_, List.getElem?_eq_getElem (by have := HN.out; omega)⟩
      have HX := hid hx
      obtain ⟨d0, d1, d2⟩ := ptAt (HA.out.below hO.base) hx
      obtain ⟨d, hd⟩ : ∃ b, hasB l x = b := ⟨_, rfl⟩
      have HC := hid (fun W (hW : Below w.heap.size w W) => hasS_is HM.out hn hd W (HL.out.below hW))
      clear he hx
      cases d
      · have HE := hid (show ts.all (hasB l) = false from all_bad HX.out hd)
        clear hd
        go_wp2_with (go_at_call 128; apply own_at hO; (repeat (first | (with_reducible exact hO) | (with_reducible apply Own.alloc) | (with_reducible apply Own.drew) | ((with_reducible apply Own.set_at); (focus (show _ ≤ _; omega))))); have hG := hF; clear hF; clear hO; intro hO; refine own_call hO (fun hB => HC.out _ hB) ?_; clear hO; intro w1 hO; (try simp only [World.size_alloc1, World.size_drew, Nat.reduceAdd] at hO); (try simp only [upd, updI, List.map_cons, List.map_nil, eq_self, if_true, if_false, reduceIte, Nat.add_eq_left, Nat.left_eq_add, Nat.reduceEqDiff, List.set_cons_zero, List.set_cons_succ, hG] at hO); clear hG; have hF := hO; (try simp only [Own, Item.Holds, apartI, CellsAt, Nat.reduceAdd, Nat.zero_add, List.mem_cons, List.not_mem_nil, or_false, forall_eq_or_imp, forall_eq, ne_eq, false_imp_iff, implies_true, and_true] at hF))
        go_ret
        exact ⟨ret_bool HE.out.symm, hO.base⟩
      · have HE := hid (show ∀ (i : Nat) (z : Pt), i < j + 1 → ts[i]? = some z → hasB l z = true from fun i z hi hz => by
          rcases (show i < j ∨ i = j by omega) with h | rfl
          · exact hno.out i z h hz
          · rw [HX.out] at hz; cases hz; exact hd)
        clear hd
        go_wp2_with (go_at_call 128; apply own_at hO; (repeat (first | (with_reducible exact hO) | (with_reducible apply Own.alloc) | (with_reducible apply Own.drew) | ((with_reducible apply Own.set_at); (focus (show _ ≤ _; omega))))); have hG := hF; clear hF; clear hO; intro hO; refine own_call hO (fun hB => HC.out _ hB) ?_; clear hO; intro w1 hO; (try simp only [World.size_alloc1, World.size_drew, Nat.reduceAdd] at hO); (try simp only [upd, updI, List.map_cons, List.map_nil, eq_self, if_true, if_false, reduceIte, Nat.add_eq_left, Nat.left_eq_add, Nat.reduceEqDiff, List.set_cons_zero, List.set_cons_succ, hG] at hO); clear hG; have hF := hO; (try simp only [Own, Item.Holds, apartI, CellsAt, Nat.reduceAdd, Nat.zero_add, List.mem_cons, List.not_mem_nil, or_false, forall_eq_or_imp, forall_eq, ne_eq, false_imp_iff, implies_true, and_true] at hF))
        go_roundw
        case rel => exact ⟨j + 1, by omega, by go_num, HE.out, hO⟩
        case measure => simp [intOf]; omega
theorem fuS_is {va vb : Value} {l ts : List Pt} {n m : Nat} {b : Bool} {w : World} (hn : l.length = n) (hm : ts.length = m) (hn9 : n ≤ 1048576) (hm9 : m ≤ 1048576) (h : ts.all (hasB l) = b) (hs : SlAt w va n 3 (pcC l)) (ht : SlAt w vb m 3 (pcC ts)) (W : World) (hW : Below w.heap.size w W) :
    Calls Tryd.prog 111 #[va, vb] W fun e w' => e = .returned (.bool b) ∧ Below W.heap.size W w' := by
  subst hn hm h; exact fuS_any va vb l ts W (hs.below hW) (ht.below hW) hn9 hm9

/-- What stands so far against chord k: before its pitches and the faults of parts are looked at. -/
def rf0 (T l : List Pt) (x : Pt) : Prop := T = [] ∨ l.length ≠ 4 ∨ l[0]? ≠ some x ∨ T.all (hasB l) = false
def rf1 (T l : List Pt) (x : Pt) (j : Nat) : Prop := rf0 T l x ∨ ∃ (i : Nat) (y : Pt), i < j ∧ l[i]? = some y ∧ hasB T y = false
def rf2 (T l : List Pt) (x : Pt) (us : List (Int × Int)) (k j : Nat) : Prop := rf1 T l x l.length ∨ ∃ (i : Nat) (u : Int × Int), i < j ∧ us[i]? = some u ∧ u.1 = (k : Int)
theorem rf1_zero {T l : List Pt} {x : Pt} {b : Bool} (h : b = true ↔ rf0 T l x) : b = true ↔ rf1 T l x 0 :=
  ⟨fun hb => Or.inl (h.1 hb), fun hb => h.2 (hb.resolve_right fun ⟨i, _, hi, _⟩ => by omega)⟩
theorem rf1_up {T l : List Pt} {x y : Pt} {j : Nat} {b d : Bool} (hy : l[j]? = some y) (hd : hasB T y = d) (h : b = true ↔ rf1 T l x j) : (b || !d) = true ↔ rf1 T l x (j + 1) := by
  rw [Bool.or_eq_true, h]
  constructor
  · rintro ((h | ⟨i, z, hi, hz, h⟩) | h)
    · exact Or.inl h
    · exact Or.inr ⟨i, z, by omega, hz, h⟩
    · exact Or.inr ⟨j, y, by omega, hy, by rw [hd]; simpa using h⟩
  · rintro (h | ⟨i, z, hi, hz, h⟩)
    · exact Or.inl (Or.inl h)
    · rcases (show i < j ∨ i = j by omega) with hi | rfl
      · exact Or.inl (Or.inr ⟨i, z, hi, hz, h⟩)
      · rw [hy] at hz; cases hz
        right; rw [← hd, h]; rfl
theorem rf2_zero {T l : List Pt} {x : Pt} {us : List (Int × Int)} {k n : Nat} {b : Bool} (hn : l.length = n) (h : b = true ↔ rf1 T l x n) : b = true ↔ rf2 T l x us k 0 := by
  subst hn
  exact ⟨fun hb => Or.inl (h.1 hb), fun hb => h.2 (hb.resolve_right fun ⟨i, _, hi, _⟩ => by omega)⟩
theorem rf2_up {T l : List Pt} {x : Pt} {us : List (Int × Int)} {k j : Nat} {u : Int × Int} {b d : Bool} (hu : us[j]? = some u) (hd : (u.1 == (k : Int)) = d) (h : b = true ↔ rf2 T l x us k j) : (b || d) = true ↔ rf2 T l x us k (j + 1) := by
  rw [Bool.or_eq_true, h]
  constructor
  · rintro ((h | ⟨i, z, hi, hz, h⟩) | h)
    · exact Or.inl h
    · exact Or.inr ⟨i, z, by omega, hz, h⟩
    · exact Or.inr ⟨j, u, by omega, hu, by rw [← hd] at h; simpa using h⟩
  · rintro (h | ⟨i, z, hi, hz, h⟩)
    · exact Or.inl (Or.inl h)
    · rcases (show i < j ∨ i = j by omega) with hi | rfl
      · exact Or.inl (Or.inr ⟨i, z, hi, hz, h⟩)
      · rw [hu] at hz; cases hz
        right; rw [← hd]; simpa using h
/-- All that stands against chord k. -/
theorem rf2_is {f : Int} {bs : List Pt} {gs : List Int} {ll : List (List Pt)} {k : Nat} {x : Pt} {g : Int} {l T : List Pt} {us : List (Int × Int)} {n : Nat} {b : Bool} (h8 : ll.length ≤ 8) (hx : bs[k]? = some x) (hg : gs[k]? = some g) (hl : ll[k]? = some l) (hT : ftL f x g = T) (hu : paZ ll = us) (hn : us.length = n)
    (h : b = true ↔ rf2 T l x us k n) : b = true ↔ rfP f bs gs ll k := by
  subst hT hu hn
  have hk := (List.getElem?_eq_some_iff.1 hl).1
  rw [h]
  unfold rf2 rf1 rf0 rfP
  rw [show bs.getD k ⟨0, 0, 0⟩ = x by rw [List.getD_eq_getElem?_getD, hx]; rfl, show gs.getD k 0 = g by rw [List.getD_eq_getElem?_getD, hg]; rfl, show ll.getD k [] = l by rw [List.getD_eq_getElem?_getD, hl]; rfl, ← pa_any h8 hk]
  have e1 : (∃ (i : Nat) (y : Pt), i < l.length ∧ l[i]? = some y ∧ hasB (ftL f x g) y = false) ↔ l.all (hasB (ftL f x g)) = false := by
    rw [← Bool.not_eq_true, List.all_eq_true]
    constructor
    · rintro ⟨i, y, _, hy, h⟩ hc
      rw [hc y (List.mem_of_getElem? hy)] at h
      cases h
    · intro h
      have h := Classical.not_forall.1 h
      obtain ⟨y, hy⟩ := h
      obtain ⟨hm, hy⟩ := Classical.not_imp.1 hy
      obtain ⟨i, hi, rfl⟩ := List.getElem_of_mem hm
      exact ⟨i, _, hi, List.getElem?_eq_getElem hi, by simpa using hy⟩
  have e2 : (∃ (i : Nat) (u : Int × Int), i < (paZ ll).length ∧ (paZ ll)[i]? = some u ∧ u.1 = (k : Int)) ↔ ∃ p ∈ paZ ll, p.1 = (k : Int) := by
    constructor
    · rintro ⟨i, u, _, hu, h⟩; exact ⟨u, List.mem_of_getElem? hu, h⟩
    · rintro ⟨u, hm, h⟩
      obtain ⟨i, hi, rfl⟩ := List.getElem_of_mem hm
      exact ⟨i, _, hi, List.getElem?_eq_getElem hi, h⟩
  rw [e1, e2]
  constructor
  · rintro (((h | h | h | h) | h) | h)
    · exact Or.inl h
    · exact Or.inr (Or.inl h)
    · exact Or.inr (Or.inr (Or.inl h))
    · exact Or.inr (Or.inr (Or.inr (Or.inl h)))
    · exact Or.inr (Or.inr (Or.inr (Or.inr (Or.inl h))))
    · exact Or.inr (Or.inr (Or.inr (Or.inr (Or.inr h))))
  · rintro (h | h | h | h | h | h)
    · exact Or.inl (Or.inl (Or.inl h))
    · exact Or.inl (Or.inl (Or.inr (Or.inl h)))
    · exact Or.inl (Or.inl (Or.inr (Or.inr (Or.inl h))))
    · exact Or.inl (Or.inl (Or.inr (Or.inr (Or.inr h))))
    · exact Or.inl (Or.inr h)
    · exact Or.inr h
end Go.Proofs.YtfdglkiehkilnaaDoor
