/- The walks of FnLineFaults and FnLineGood, from what the program's functions answer. -/
import Derived.Test.YtfdglkiehkilnaaDoorDraws14L
import Derived.Test.YtfdglkiehkilnaaDoorDrawBase
import Derived.Test.YtfdglkiehkilnaaDoorLawsPitch
import Derived.Test.YtfdglkiehkilnaaDoorCon14
import Derived.Test.YtfdglkiehkilnaaDoorWalks14I
import Derived.Test.YtfdglkiehkilnaaDoorRegionD
namespace Go.Proofs.YtfdglkiehkilnaaDoor
set_option linter.unusedSimpArgs false
set_option linter.unusedVariables false
set_option maxRecDepth 8000
open Go.RowKit

set_option maxRecDepth 20000 in
set_option maxHeartbeats 8000000 in
theorem fnLineFaults_of (v : Value) (n0 : Nat) (w : World) (hn : n0 ≤ maxLen) (h : BytesB w w.heap.size v n0) (ht : TabH w)
    (hI : CLf 17 w) (hG : CLg 19 w) :
    Calls Tryd.prog 4 #[v] w fun e w' => e = .returned (.bool true) ∧ Below w.heap.size w w' := by
  obtain ⟨a0, c0, rfl⟩ := h.form
  have hn' : (n0 : Int) ≤ 9223372036854775807 := by unfold maxLen at hn; omega
  by_cases hl : n0 ≤ 1048576
  · have hl' : (n0 : Int) ≤ 1048576 := by omega
    go_enter Tryd.func4, Tryd.ntmps4
    go_wp2_with (go_at_call 16; refine (DrawLineFaults_any _ n0 _ hn h).mono ?_; rintro e wd ⟨f, u, v, c, l, hf, hc, hv, hl6, hl8, rfl, hs, hs', hb0⟩)
    have HT := hid (ht.below hb0)
    have HB0 := hid hb0
    have hO := Own.start wd
    have hF := True.intro
    obtain ⟨n, hnl⟩ : ∃ n, c.length = n := ⟨_, rfl⟩
    obtain ⟨m, hml⟩ : ∃ n, l.length = n := ⟨_, rfl⟩
    rw [hnl] at hs hl6
    rw [hml] at hs' hl8
    have HSC := hid hs
    have HSL := hid hs'
    obtain ⟨A, cA, rfl⟩ := hs.form
    obtain ⟨A', cA', rfl⟩ := hs'.form
    have hfc := lfZ_facts f c l
    rw [hml] at hfc
    obtain ⟨g, hg⟩ : ∃ b, lgB f c l = b := ⟨_, rfl⟩
    have hg0 : g = true → lfZ f c l = [] := fun e => (lg_is (hg.trans e)).2
    obtain ⟨us, hus⟩ : ∃ us, lfZ f c l = us := ⟨_, rfl⟩
    obtain ⟨kk, hkk⟩ : ∃ kk, us.length = kk := ⟨_, rfl⟩
    have HI := hid ((hI.to hb0).is hnl hml (by omega) (by omega) hus hkk)
    have HS := hid ((lfS_C wd).is hnl hml (by omega) (by omega) hus hkk)
    have HGG := hid ((hG.to hb0).is hnl hml (by omega) (by omega) hg)
    rw [hus] at hfc hg0
    rw [hkk] at hfc
    have HFC := hid hfc
    have HG0 := hid (show g = true → kk = 0 from fun e => by rw [← hkk, hg0 e]; rfl)
    have HKK := hid hkk
    have hk16 : kk ≤ 16 := by omega
    clear hn h ht hI hG hb0 hc hv hs hs' hus hkk hg hnl hml hfc hg0 hf
    go_wp2_with (first | ((go_at_call 17; apply own_at hO; (repeat (first | (with_reducible exact hO) | (with_reducible apply Own.alloc) | (with_reducible apply Own.drew) | ((with_reducible apply Own.set_at); (focus (show _ ≤ _; omega))))); have hG := hF; clear hF; clear hO; intro hO; refine own_call_row hO (fun hB => HI.out _ _ _ hB (HSC.out.below hB) (HSL.out.below hB)) ?_; clear hO; intro v w1 hO; (try simp only [World.size_alloc1, World.size_drew, Nat.reduceAdd] at hO); (try simp only [upd, updI, List.map_cons, List.map_nil, eq_self, if_true, if_false, reduceIte, Nat.add_eq_left, Nat.left_eq_add, Nat.reduceEqDiff, List.set_cons_zero, List.set_cons_succ, hG] at hO); clear hG; have hF := hO; (try simp only [Own, Item.Holds, apartI, CellsAt, Nat.reduceAdd, Nat.zero_add, List.mem_cons, List.not_mem_nil, or_false, forall_eq_or_imp, forall_eq, ne_eq, false_imp_iff, implies_true, and_true] at hF)); clear HI; obtain ⟨A1, c1, hv1⟩ := (SlAt.of_row hO.1.1).form; subst hv1; clear hF; have hF := hO; (try simp only [Own, Item.Holds, apartI, CellsAt, Nat.reduceAdd, Nat.zero_add, List.mem_cons, List.not_mem_nil, or_false, forall_eq_or_imp, forall_eq, ne_eq, false_imp_iff, implies_true, and_true] at hF)) | ((go_at_call 18; apply own_at hO; (repeat (first | (with_reducible exact hO) | (with_reducible apply Own.alloc) | (with_reducible apply Own.drew) | ((with_reducible apply Own.set_at); (focus (show _ ≤ _; omega))))); have hG := hF; clear hF; clear hO; intro hO; refine own_call_row hO (fun hB => HS.out _ _ _ hB (HSC.out.below hB) (HSL.out.below hB)) ?_; clear hO; intro v w1 hO; (try simp only [World.size_alloc1, World.size_drew, Nat.reduceAdd] at hO); (try simp only [upd, updI, List.map_cons, List.map_nil, eq_self, if_true, if_false, reduceIte, Nat.add_eq_left, Nat.left_eq_add, Nat.reduceEqDiff, List.set_cons_zero, List.set_cons_succ, hG] at hO); clear hG; have hF := hO; (try simp only [Own, Item.Holds, apartI, CellsAt, Nat.reduceAdd, Nat.zero_add, List.mem_cons, List.not_mem_nil, or_false, forall_eq_or_imp, forall_eq, ne_eq, false_imp_iff, implies_true, and_true] at hF)); obtain ⟨A2, c2, hv2⟩ := (SlAt.of_row hO.1.1).form; subst hv2; clear hF; have hF := hO; (try simp only [Own, Item.Holds, apartI, CellsAt, Nat.reduceAdd, Nat.zero_add, List.mem_cons, List.not_mem_nil, or_false, forall_eq_or_imp, forall_eq, ne_eq, false_imp_iff, implies_true, and_true] at hF)))
    clear HS
    go_loopw [8] (fun e wr => ∃ i : Nat, i ≤ kk ∧ e = .int .i64 i ∧ Own wd.heap.size (Below wd.heap.size wd) wr [.row 36 2 (.slice A2 kk c2) kk (tnC us), .row 36 2 (.slice A1 kk c1) kk (tnC us)]) (fun e _ => kk - (intOf e).toNat)
    case atStart => exact ⟨0, by omega, rfl, hO⟩
    case round =>
      clear hO hF
      obtain ⟨i, hi, rfl, hO⟩ := hrel
      have hF := hO; (try simp only [Own, Item.Holds, apartI, CellsAt, Nat.reduceAdd, Nat.zero_add, List.mem_cons, List.not_mem_nil, or_false, forall_eq_or_imp, forall_eq, ne_eq, false_imp_iff, implies_true, and_true] at hF)
      by_cases he : i = kk
      · subst he
        have wm : IntKind.i64.wrap (2 * (m : Int)) = 2 * (m : Int) := IntWalk.i64_in _ (by omega)
        have hle : (i : Int) ≤ 2 * (m : Int) := by have := HFC.out.1; omega
        cases g
        · go_wp2_with (first | (go_at_call 19; apply own_at hO; (repeat (first | (with_reducible exact hO) | (with_reducible apply Own.alloc) | (with_reducible apply Own.drew) | ((with_reducible apply Own.set_at); (focus (show _ ≤ _; omega))))); have hG := hF; clear hF; clear hO; intro hO; refine own_call hO (fun hB => HGG.out _ _ _ hB (HSC.out.below hB) (HSL.out.below hB)) ?_; clear hO; intro w1 hO; (try simp only [World.size_alloc1, World.size_drew, Nat.reduceAdd] at hO); (try simp only [upd, updI, List.map_cons, List.map_nil, eq_self, if_true, if_false, reduceIte, Nat.add_eq_left, Nat.left_eq_add, Nat.reduceEqDiff, List.set_cons_zero, List.set_cons_succ, hG] at hO); clear hG; have hF := hO; (try simp only [Own, Item.Holds, apartI, CellsAt, Nat.reduceAdd, Nat.zero_add, List.mem_cons, List.not_mem_nil, or_false, forall_eq_or_imp, forall_eq, ne_eq, false_imp_iff, implies_true, and_true] at hF)) | (go_at_call 15; apply own_at hO; (repeat (first | (with_reducible exact hO) | (with_reducible apply Own.alloc) | (with_reducible apply Own.drew) | ((with_reducible apply Own.set_at); (focus (show _ ≤ _; omega))))); have hG := hF; clear hF; clear hO; intro hO; refine own_call hO (fun hB => alive_any _ (HT.out.below hB)) ?_; clear hO; intro w1 hO; (try simp only [World.size_alloc1, World.size_drew, Nat.reduceAdd] at hO); (try simp only [upd, updI, List.map_cons, List.map_nil, eq_self, if_true, if_false, reduceIte, Nat.add_eq_left, Nat.left_eq_add, Nat.reduceEqDiff, List.set_cons_zero, List.set_cons_succ, hG] at hO); clear hG; have hF := hO; (try simp only [Own, Item.Holds, apartI, CellsAt, Nat.reduceAdd, Nat.zero_add, List.mem_cons, List.not_mem_nil, or_false, forall_eq_or_imp, forall_eq, ne_eq, false_imp_iff, implies_true, and_true] at hF)))
          go_ret
          exact ⟨rfl, btr HB0.out (Own.base (by first | exact hO | (repeat (first | (with_reducible exact hO) | (with_reducible apply Own.alloc) | (with_reducible apply Own.drew) | ((with_reducible apply Own.set_at); (focus (show _ ≤ _; omega)))))))⟩
        · have hi0 : i = 0 := HG0.out rfl
          have hi1 : ((i : Int) == 0) = true := by simp; omega
          have HI0 := hid hi0
          clear hi0
          go_wp2_with (first | (go_at_call 19; apply own_at hO; (repeat (first | (with_reducible exact hO) | (with_reducible apply Own.alloc) | (with_reducible apply Own.drew) | ((with_reducible apply Own.set_at); (focus (show _ ≤ _; omega))))); have hG := hF; clear hF; clear hO; intro hO; refine own_call hO (fun hB => HGG.out _ _ _ hB (HSC.out.below hB) (HSL.out.below hB)) ?_; clear hO; intro w1 hO; (try simp only [World.size_alloc1, World.size_drew, Nat.reduceAdd] at hO); (try simp only [upd, updI, List.map_cons, List.map_nil, eq_self, if_true, if_false, reduceIte, Nat.add_eq_left, Nat.left_eq_add, Nat.reduceEqDiff, List.set_cons_zero, List.set_cons_succ, hG] at hO); clear hG; have hF := hO; (try simp only [Own, Item.Holds, apartI, CellsAt, Nat.reduceAdd, Nat.zero_add, List.mem_cons, List.not_mem_nil, or_false, forall_eq_or_imp, forall_eq, ne_eq, false_imp_iff, implies_true, and_true] at hF)) | (go_at_call 15; apply own_at hO; (repeat (first | (with_reducible exact hO) | (with_reducible apply Own.alloc) | (with_reducible apply Own.drew) | ((with_reducible apply Own.set_at); (focus (show _ ≤ _; omega))))); have hG := hF; clear hF; clear hO; intro hO; refine own_call hO (fun hB => alive_any _ (HT.out.below hB)) ?_; clear hO; intro w1 hO; (try simp only [World.size_alloc1, World.size_drew, Nat.reduceAdd] at hO); (try simp only [upd, updI, List.map_cons, List.map_nil, eq_self, if_true, if_false, reduceIte, Nat.add_eq_left, Nat.left_eq_add, Nat.reduceEqDiff, List.set_cons_zero, List.set_cons_succ, hG] at hO); clear hG; have hF := hO; (try simp only [Own, Item.Holds, apartI, CellsAt, Nat.reduceAdd, Nat.zero_add, List.mem_cons, List.not_mem_nil, or_false, forall_eq_or_imp, forall_eq, ne_eq, false_imp_iff, implies_true, and_true] at hF)))
          go_ret
          exact ⟨rfl, btr HB0.out (Own.base (by first | exact hO | (repeat (first | (with_reducible exact hO) | (with_reducible apply Own.alloc) | (with_reducible apply Own.drew) | ((with_reducible apply Own.set_at); (focus (show _ ≤ _; omega)))))))⟩
      · have hi1 : i < kk := by omega
        have hi2 : (i : Int) < (kk : Int) := by omega
        have hi0 : (0 : Int) ≤ (i : Int) := by omega
        obtain ⟨c, hc⟩ : ∃ c, us[i]? = some c := ⟨_, List.getElem?_eq_getElem (by have := HKK.out; omega)⟩
        have HC := hid hc
        have hcb := HFC.out.2.1 c (List.mem_of_getElem? hc)
        obtain ⟨q2, cp2, hv2, _, _⟩ := hO.row_open (by omega)
        cases hv2
        obtain ⟨q1, cp1, hv1, _, _⟩ := hO.2.row_open (by omega)
        cases hv1
        have y1 : ¬ c.2 < 1 := by omega
        have y2 : ¬ 7 < c.2 := by omega
        have y3 : decide (c.2 < 1) = false := decide_eq_false y1
        have y4 : decide (7 < c.2) = false := decide_eq_false y2
        have wi0 : IntKind.i64.wrap ((i : Int) + 1) = (i : Int) + 1 := IntWalk.i64_in _ (by omega)
        rcases (show i = 0 ∨ ∃ p, i = p + 1 by cases i with | zero => exact Or.inl rfl | succ p => exact Or.inr ⟨p, rfl⟩) with h0 | ⟨p, rfl⟩
        · have z1 : decide ((0 : Int) < (i : Int)) = false := decide_eq_false (by omega)
          have z2 : decide (0 < i) = false := decide_eq_false (by omega)
          clear h0 he hc hcb
          go_wp2_with fail
          apply own_code hO
          (repeat (first | (with_reducible exact hO) | (with_reducible apply Own.alloc) | (with_reducible apply Own.drew) | ((with_reducible apply Own.set_at); (focus (show _ ≤ _; omega)))))
          have hG := hF; clear hF; clear hO; intro hO
          (try simp only [World.size_alloc1, World.size_drew, Nat.reduceAdd] at hO); (try simp only [upd, updI, List.map_cons, List.map_nil, eq_self, if_true, if_false, reduceIte, Nat.add_eq_left, Nat.left_eq_add, Nat.reduceEqDiff, List.set_cons_zero, List.set_cons_succ, hG] at hO); clear hG
          refine region_own (X := fun _ => True) [] (by kernel_rfl) (hO) (trivial) (by first | exact XStab.true | exact XStab.rd | exact XStab.rdIf) ?_
          clear hO
          refine Sim.sP (i := 0) (d := some 37) (h := ?_)
          refine Sim.sP (i := 1) (d := some 38) (h := ?_)
          refine Sim.sP (i := 2) (d := some 39) (h := ?_)
          refine Sim.sO (i := 3) (d := some 40) (v := ?_) (hy := ?_) (h := ?_)
          rotate_left
          · first | refine Or.inl ⟨by rfl, fun w hO => ?_⟩ | (refine Or.inr ⟨by rfl, ?_⟩; with_reducible rfl)
            first | done | (have hF := hO; (try simp only [Own, Item.Holds, apartI, CellsAt, Nat.reduceAdd, Nat.zero_add, List.mem_cons, List.not_mem_nil, or_false, forall_eq_or_imp, forall_eq, ne_eq, false_imp_iff, implies_true, and_true] at hF); ((have e0 := hO.2.row_cell (tnC_at HC.out).1; have e1 := hO.2.row_cell (tnC_at HC.out).2; have f0 := hO.row_cell (tnC_at HC.out).1; have f1 := hO.row_cell (tnC_at HC.out).2)); refine Out.same ?_; go_simp; all_goals with_reducible rfl)
          refine Sim.sP (i := 4) (d := some 41) (h := ?_)
          refine Sim.sP (i := 5) (d := some 42) (h := ?_)
          refine Sim.sP (i := 6) (d := some 43) (h := ?_)
          refine Sim.sO (i := 7) (d := some 44) (v := ?_) (hy := ?_) (h := ?_)
          rotate_left
          · first | refine Or.inl ⟨by rfl, fun w hO => ?_⟩ | (refine Or.inr ⟨by rfl, ?_⟩; with_reducible rfl)
            first | done | (have hF := hO; (try simp only [Own, Item.Holds, apartI, CellsAt, Nat.reduceAdd, Nat.zero_add, List.mem_cons, List.not_mem_nil, or_false, forall_eq_or_imp, forall_eq, ne_eq, false_imp_iff, implies_true, and_true] at hF); ((have e0 := hO.2.row_cell (tnC_at HC.out).1; have e1 := hO.2.row_cell (tnC_at HC.out).2; have f0 := hO.row_cell (tnC_at HC.out).1; have f1 := hO.row_cell (tnC_at HC.out).2)); refine Out.same ?_; go_simp; all_goals with_reducible rfl)
          refine Sim.sP (i := 8) (d := some 45) (h := ?_)
          refine Sim.sP (i := 9) (d := some 46) (h := ?_)
          refine Sim.sP (i := 10) (d := some 47) (h := ?_)
          refine Sim.sP (i := 11) (d := some 48) (h := ?_)
          refine Sim.sP (i := 12) (d := some 49) (h := ?_)
          refine Sim.sP (i := 13) (d := some 50) (h := ?_)
          refine Sim.sP (i := 14) (d := some 51) (h := ?_)
          refine Sim.sP (i := 15) (d := some 52) (h := ?_)
          refine Sim.sP (i := 16) (d := some 53) (h := ?_)
          refine Sim.sO (i := 17) (d := some 54) (v := ?_) (hy := ?_) (h := ?_)
          rotate_left
          · first | refine Or.inl ⟨by rfl, fun w hO => ?_⟩ | (refine Or.inr ⟨by rfl, ?_⟩; with_reducible rfl)
            first | done | (have hF := hO; (try simp only [Own, Item.Holds, apartI, CellsAt, Nat.reduceAdd, Nat.zero_add, List.mem_cons, List.not_mem_nil, or_false, forall_eq_or_imp, forall_eq, ne_eq, false_imp_iff, implies_true, and_true] at hF); ((have e0 := hO.2.row_cell (tnC_at HC.out).1; have e1 := hO.2.row_cell (tnC_at HC.out).2; have f0 := hO.row_cell (tnC_at HC.out).1; have f1 := hO.row_cell (tnC_at HC.out).2)); refine Out.same ?_; go_simp; all_goals with_reducible rfl)
          refine Sim.sP (i := 18) (d := some 55) (h := ?_)
          refine Sim.sP (i := 19) (d := some 56) (h := ?_)
          refine Sim.sP (i := 20) (d := some 57) (h := ?_)
          refine Sim.sP (i := 21) (d := some 58) (h := ?_)
          refine Sim.sP (i := 22) (d := some 59) (h := ?_)
          refine Sim.sO (i := 23) (d := some 60) (v := ?_) (hy := ?_) (h := ?_)
          rotate_left
          · first | refine Or.inl ⟨by rfl, fun w hO => ?_⟩ | (refine Or.inr ⟨by rfl, ?_⟩; with_reducible rfl)
            first | done | (have hF := hO; (try simp only [Own, Item.Holds, apartI, CellsAt, Nat.reduceAdd, Nat.zero_add, List.mem_cons, List.not_mem_nil, or_false, forall_eq_or_imp, forall_eq, ne_eq, false_imp_iff, implies_true, and_true] at hF); ((have e0 := hO.2.row_cell (tnC_at HC.out).1; have e1 := hO.2.row_cell (tnC_at HC.out).2; have f0 := hO.row_cell (tnC_at HC.out).1; have f1 := hO.row_cell (tnC_at HC.out).2)); refine Out.same ?_; go_simp; all_goals with_reducible rfl)
          refine Sim.sP (i := 24) (d := some 61) (h := ?_)
          refine Sim.sP (i := 25) (d := some 62) (h := ?_)
          refine Sim.sP (i := 26) (d := some 63) (h := ?_)
          refine Sim.sP (i := 27) (d := some 64) (h := ?_)
          refine Sim.sP (i := 28) (d := some 65) (h := ?_)
          refine Sim.sP (i := 29) (d := some 66) (h := ?_)
          refine Sim.sP (i := 30) (d := some 67) (h := ?_)
          refine Sim.sP (i := 31) (d := some 68) (h := ?_)
          refine Sim.sO (i := 32) (d := some 69) (v := ?_) (hy := ?_) (h := ?_)
          rotate_left
          · first | refine Or.inl ⟨by rfl, fun w hO => ?_⟩ | (refine Or.inr ⟨by rfl, ?_⟩; with_reducible rfl)
            first | done | (have hF := hO; (try simp only [Own, Item.Holds, apartI, CellsAt, Nat.reduceAdd, Nat.zero_add, List.mem_cons, List.not_mem_nil, or_false, forall_eq_or_imp, forall_eq, ne_eq, false_imp_iff, implies_true, and_true] at hF); ((have e0 := hO.2.row_cell (tnC_at HC.out).1; have e1 := hO.2.row_cell (tnC_at HC.out).2; have f0 := hO.row_cell (tnC_at HC.out).1; have f1 := hO.row_cell (tnC_at HC.out).2)); refine Out.same ?_; go_simp; all_goals with_reducible rfl)
          refine Sim.sP (i := 33) (d := some 70) (h := ?_)
          refine Sim.sP (i := 34) (d := some 71) (h := ?_)
          refine Sim.sP (i := 35) (d := some 72) (h := ?_)
          refine Sim.sP (i := 36) (d := some 73) (h := ?_)
          refine Sim.sP (i := 37) (d := some 74) (h := ?_)
          refine Sim.sP (i := 38) (d := some 75) (h := ?_)
          refine Sim.sP (i := 39) (d := some 76) (h := ?_)
          refine Sim.sO (i := 40) (d := some 77) (v := ?_) (hy := ?_) (h := ?_)
          rotate_left
          · first | refine Or.inl ⟨by rfl, fun w hO => ?_⟩ | (refine Or.inr ⟨by rfl, ?_⟩; with_reducible rfl)
            first | done | (have hF := hO; (try simp only [Own, Item.Holds, apartI, CellsAt, Nat.reduceAdd, Nat.zero_add, List.mem_cons, List.not_mem_nil, or_false, forall_eq_or_imp, forall_eq, ne_eq, false_imp_iff, implies_true, and_true] at hF); ((have e0 := hO.2.row_cell (tnC_at HC.out).1; have e1 := hO.2.row_cell (tnC_at HC.out).2; have f0 := hO.row_cell (tnC_at HC.out).1; have f1 := hO.row_cell (tnC_at HC.out).2)); refine Out.same ?_; go_simp; all_goals with_reducible rfl)
          refine Sim.sP (i := 41) (d := some 78) (h := ?_)
          refine Sim.sP (i := 42) (d := some 79) (h := ?_)
          refine Sim.done (by kernel_rfl) (fun w1 hO hX => ?_) _
          (try simp only [World.size_alloc1, World.size_drew, Nat.reduceAdd] at hO); (try simp only [upd, updI, List.map_cons, List.map_nil, eq_self, if_true, if_false, reduceIte, Nat.add_eq_left, Nat.left_eq_add, Nat.reduceEqDiff, List.set_cons_zero, List.set_cons_succ] at hO)
          have hF := hO; (try simp only [Own, Item.Holds, apartI, CellsAt, Nat.reduceAdd, Nat.zero_add, List.mem_cons, List.not_mem_nil, or_false, forall_eq_or_imp, forall_eq, ne_eq, false_imp_iff, implies_true, and_true] at hF)
          all_goals
            go_wp2
            go_roundw
            case rel => exact ⟨i + 1, by omega, by go_num, hO⟩
            case measure => simp [intOf]; omega
        · obtain ⟨c9, hc9⟩ : ∃ c, us[p]? = some c := ⟨_, List.getElem?_eq_getElem (by have := HKK.out; omega)⟩
          have HC9 := hid hc9
          have hup : c9.1 ≤ c.1 := HFC.out.2.2 p c9 c hc9 hc
          have z1 : decide (c.1 < c9.1) = false := decide_eq_false (by omega)
          have z2 : ¬ c.1 < c9.1 := by omega
          have z3 : (0 : Int) < (p : Int) + 1 := by omega
          have z4 : decide ((0 : Int) < (p : Int) + 1) = true := decide_eq_true z3
          have z5 : (0 : Int) ≤ (p : Int) := by omega
          have z9 : (0 : Int) ≤ (p : Int) + 1 := by omega
          have z6 : (p : Int) < (kk : Int) := by omega
          have z7 : p < kk := by omega
          have z8 : (p : Int) + 1 < (kk : Int) := by omega
          have wi : IntKind.i64.wrap ((p : Int) + 1 - 1) = (p : Int) := by rw [show (p : Int) + 1 - 1 = (p : Int) by omega]; exact IntWalk.i64_in _ (by omega)
          have wi2 : IntKind.i64.wrap (p : Int) = (p : Int) := IntWalk.i64_in _ (by omega)
          have wj : IntKind.i64.wrap ((p : Int) + 1 + 1) = (p : Int) + 1 + 1 := IntWalk.i64_in _ (by omega)
          clear he hc hc9 hcb hup
          go_wp2_with fail
          apply own_code hO
          (repeat (first | (with_reducible exact hO) | (with_reducible apply Own.alloc) | (with_reducible apply Own.drew) | ((with_reducible apply Own.set_at); (focus (show _ ≤ _; omega)))))
          have hG := hF; clear hF; clear hO; intro hO
          (try simp only [World.size_alloc1, World.size_drew, Nat.reduceAdd] at hO); (try simp only [upd, updI, List.map_cons, List.map_nil, eq_self, if_true, if_false, reduceIte, Nat.add_eq_left, Nat.left_eq_add, Nat.reduceEqDiff, List.set_cons_zero, List.set_cons_succ, hG] at hO); clear hG
          refine region_own (X := fun _ => True) [] (by kernel_rfl) (hO) (trivial) (by first | exact XStab.true | exact XStab.rd | exact XStab.rdIf) ?_
          clear hO
          refine Sim.sP (i := 0) (d := some 37) (h := ?_)
          refine Sim.sP (i := 1) (d := some 38) (h := ?_)
          refine Sim.sP (i := 2) (d := some 39) (h := ?_)
          refine Sim.sO (i := 3) (d := some 40) (v := ?_) (hy := ?_) (h := ?_)
          rotate_left
          · first | refine Or.inl ⟨by rfl, fun w hO => ?_⟩ | (refine Or.inr ⟨by rfl, ?_⟩; with_reducible rfl)
            first | done | (have hF := hO; (try simp only [Own, Item.Holds, apartI, CellsAt, Nat.reduceAdd, Nat.zero_add, List.mem_cons, List.not_mem_nil, or_false, forall_eq_or_imp, forall_eq, ne_eq, false_imp_iff, implies_true, and_true] at hF); ((have e0 := hO.2.row_cell (tnC_at HC.out).1; have e1 := hO.2.row_cell (tnC_at HC.out).2; have f0 := hO.row_cell (tnC_at HC.out).1; have f1 := hO.row_cell (tnC_at HC.out).2; have g0 := hO.2.row_cell (tnC_at HC9.out).1; have g1 := hO.2.row_cell (tnC_at HC9.out).2)); refine Out.same ?_; go_simp; all_goals with_reducible rfl)
          refine Sim.sP (i := 4) (d := some 41) (h := ?_)
          refine Sim.sP (i := 5) (d := some 42) (h := ?_)
          refine Sim.sP (i := 6) (d := some 43) (h := ?_)
          refine Sim.sO (i := 7) (d := some 44) (v := ?_) (hy := ?_) (h := ?_)
          rotate_left
          · first | refine Or.inl ⟨by rfl, fun w hO => ?_⟩ | (refine Or.inr ⟨by rfl, ?_⟩; with_reducible rfl)
            first | done | (have hF := hO; (try simp only [Own, Item.Holds, apartI, CellsAt, Nat.reduceAdd, Nat.zero_add, List.mem_cons, List.not_mem_nil, or_false, forall_eq_or_imp, forall_eq, ne_eq, false_imp_iff, implies_true, and_true] at hF); ((have e0 := hO.2.row_cell (tnC_at HC.out).1; have e1 := hO.2.row_cell (tnC_at HC.out).2; have f0 := hO.row_cell (tnC_at HC.out).1; have f1 := hO.row_cell (tnC_at HC.out).2; have g0 := hO.2.row_cell (tnC_at HC9.out).1; have g1 := hO.2.row_cell (tnC_at HC9.out).2)); refine Out.same ?_; go_simp; all_goals with_reducible rfl)
          refine Sim.sP (i := 8) (d := some 45) (h := ?_)
          refine Sim.sP (i := 9) (d := some 46) (h := ?_)
          refine Sim.sP (i := 10) (d := some 47) (h := ?_)
          refine Sim.sP (i := 11) (d := some 48) (h := ?_)
          refine Sim.sP (i := 12) (d := some 49) (h := ?_)
          refine Sim.sP (i := 13) (d := some 50) (h := ?_)
          refine Sim.sP (i := 14) (d := some 51) (h := ?_)
          refine Sim.sP (i := 15) (d := some 52) (h := ?_)
          refine Sim.sP (i := 16) (d := some 53) (h := ?_)
          refine Sim.sO (i := 17) (d := some 54) (v := ?_) (hy := ?_) (h := ?_)
          rotate_left
          · first | refine Or.inl ⟨by rfl, fun w hO => ?_⟩ | (refine Or.inr ⟨by rfl, ?_⟩; with_reducible rfl)
            first | done | (have hF := hO; (try simp only [Own, Item.Holds, apartI, CellsAt, Nat.reduceAdd, Nat.zero_add, List.mem_cons, List.not_mem_nil, or_false, forall_eq_or_imp, forall_eq, ne_eq, false_imp_iff, implies_true, and_true] at hF); ((have e0 := hO.2.row_cell (tnC_at HC.out).1; have e1 := hO.2.row_cell (tnC_at HC.out).2; have f0 := hO.row_cell (tnC_at HC.out).1; have f1 := hO.row_cell (tnC_at HC.out).2; have g0 := hO.2.row_cell (tnC_at HC9.out).1; have g1 := hO.2.row_cell (tnC_at HC9.out).2)); refine Out.same ?_; go_simp; all_goals with_reducible rfl)
          refine Sim.sP (i := 18) (d := some 55) (h := ?_)
          refine Sim.sP (i := 19) (d := some 56) (h := ?_)
          refine Sim.sP (i := 20) (d := some 57) (h := ?_)
          refine Sim.sP (i := 21) (d := some 58) (h := ?_)
          refine Sim.sP (i := 22) (d := some 59) (h := ?_)
          refine Sim.sO (i := 23) (d := some 60) (v := ?_) (hy := ?_) (h := ?_)
          rotate_left
          · first | refine Or.inl ⟨by rfl, fun w hO => ?_⟩ | (refine Or.inr ⟨by rfl, ?_⟩; with_reducible rfl)
            first | done | (have hF := hO; (try simp only [Own, Item.Holds, apartI, CellsAt, Nat.reduceAdd, Nat.zero_add, List.mem_cons, List.not_mem_nil, or_false, forall_eq_or_imp, forall_eq, ne_eq, false_imp_iff, implies_true, and_true] at hF); ((have e0 := hO.2.row_cell (tnC_at HC.out).1; have e1 := hO.2.row_cell (tnC_at HC.out).2; have f0 := hO.row_cell (tnC_at HC.out).1; have f1 := hO.row_cell (tnC_at HC.out).2; have g0 := hO.2.row_cell (tnC_at HC9.out).1; have g1 := hO.2.row_cell (tnC_at HC9.out).2)); refine Out.same ?_; go_simp; all_goals with_reducible rfl)
          refine Sim.sP (i := 24) (d := some 61) (h := ?_)
          refine Sim.sP (i := 25) (d := some 62) (h := ?_)
          refine Sim.sP (i := 26) (d := some 63) (h := ?_)
          refine Sim.sP (i := 27) (d := some 64) (h := ?_)
          refine Sim.sP (i := 28) (d := some 65) (h := ?_)
          refine Sim.sP (i := 29) (d := some 66) (h := ?_)
          refine Sim.sP (i := 30) (d := some 67) (h := ?_)
          refine Sim.sP (i := 31) (d := some 68) (h := ?_)
          refine Sim.sO (i := 32) (d := some 69) (v := ?_) (hy := ?_) (h := ?_)
          rotate_left
          · first | refine Or.inl ⟨by rfl, fun w hO => ?_⟩ | (refine Or.inr ⟨by rfl, ?_⟩; with_reducible rfl)
            first | done | (have hF := hO; (try simp only [Own, Item.Holds, apartI, CellsAt, Nat.reduceAdd, Nat.zero_add, List.mem_cons, List.not_mem_nil, or_false, forall_eq_or_imp, forall_eq, ne_eq, false_imp_iff, implies_true, and_true] at hF); ((have e0 := hO.2.row_cell (tnC_at HC.out).1; have e1 := hO.2.row_cell (tnC_at HC.out).2; have f0 := hO.row_cell (tnC_at HC.out).1; have f1 := hO.row_cell (tnC_at HC.out).2; have g0 := hO.2.row_cell (tnC_at HC9.out).1; have g1 := hO.2.row_cell (tnC_at HC9.out).2)); refine Out.same ?_; go_simp; all_goals with_reducible rfl)
          refine Sim.sP (i := 33) (d := some 70) (h := ?_)
          refine Sim.sP (i := 34) (d := some 71) (h := ?_)
          refine Sim.sP (i := 35) (d := some 72) (h := ?_)
          refine Sim.sP (i := 36) (d := some 73) (h := ?_)
          refine Sim.sP (i := 37) (d := some 74) (h := ?_)
          refine Sim.sP (i := 38) (d := some 75) (h := ?_)
          refine Sim.sP (i := 39) (d := some 76) (h := ?_)
          refine Sim.sO (i := 40) (d := some 77) (v := ?_) (hy := ?_) (h := ?_)
          rotate_left
          · first | refine Or.inl ⟨by rfl, fun w hO => ?_⟩ | (refine Or.inr ⟨by rfl, ?_⟩; with_reducible rfl)
            first | done | (have hF := hO; (try simp only [Own, Item.Holds, apartI, CellsAt, Nat.reduceAdd, Nat.zero_add, List.mem_cons, List.not_mem_nil, or_false, forall_eq_or_imp, forall_eq, ne_eq, false_imp_iff, implies_true, and_true] at hF); ((have e0 := hO.2.row_cell (tnC_at HC.out).1; have e1 := hO.2.row_cell (tnC_at HC.out).2; have f0 := hO.row_cell (tnC_at HC.out).1; have f1 := hO.row_cell (tnC_at HC.out).2; have g0 := hO.2.row_cell (tnC_at HC9.out).1; have g1 := hO.2.row_cell (tnC_at HC9.out).2)); refine Out.same ?_; go_simp; all_goals with_reducible rfl)
          refine Sim.sP (i := 41) (d := some 78) (h := ?_)
          refine Sim.sP (i := 42) (d := some 79) (h := ?_)
          refine Sim.done (by kernel_rfl) (fun w1 hO hX => ?_) _
          (try simp only [World.size_alloc1, World.size_drew, Nat.reduceAdd] at hO); (try simp only [upd, updI, List.map_cons, List.map_nil, eq_self, if_true, if_false, reduceIte, Nat.add_eq_left, Nat.left_eq_add, Nat.reduceEqDiff, List.set_cons_zero, List.set_cons_succ] at hO)
          have hF := hO; (try simp only [Own, Item.Holds, apartI, CellsAt, Nat.reduceAdd, Nat.zero_add, List.mem_cons, List.not_mem_nil, or_false, forall_eq_or_imp, forall_eq, ne_eq, false_imp_iff, implies_true, and_true] at hF)
          all_goals
            go_wp2
            go_roundw
            case rel => exact ⟨p + 1 + 1, by omega, by go_num, hO⟩
            case measure => simp [intOf]; omega
  · have hl' : 1048576 < (n0 : Int) := by omega
    go_enter Tryd.func4, Tryd.ntmps4
    go_wp2
    go_ret
    exact ⟨rfl, Below.refl _ _⟩

set_option maxRecDepth 20000 in
set_option maxHeartbeats 8000000 in
theorem fnLineGood_of (v : Value) (n0 : Nat) (w : World) (hn : n0 ≤ maxLen) (h : BytesB w w.heap.size v n0) (ht : TabH w) (hA : TabA w)
    (hI : CLf 17 w) (hG : CLg 19 w) :
    Calls Tryd.prog 5 #[v] w fun e w' => e = .returned (.bool true) ∧ Below w.heap.size w w' := by
  obtain ⟨a0, c0, rfl⟩ := h.form
  have hn' : (n0 : Int) ≤ 9223372036854775807 := by unfold maxLen at hn; omega
  by_cases hl : n0 ≤ 1048576
  · have hl' : (n0 : Int) ≤ 1048576 := by omega
    go_enter Tryd.func5, Tryd.ntmps5
    go_wp2_with (go_at_call 20; refine (DrawLineGood_any _ n0 _ hn h).mono ?_; rintro e wd ⟨f, u, v, c, l, hf, hc, hv, hl6, hl8, rfl, hs, hs', hb0⟩)
    have HT := hid (ht.below hb0)
    have HA := hid (hA.below hb0)
    have HB0 := hid hb0
    have hO := Own.start wd
    have hF := True.intro
    obtain ⟨n, hnl⟩ : ∃ n, c.length = n := ⟨_, rfl⟩
    obtain ⟨m, hml⟩ : ∃ n, l.length = n := ⟨_, rfl⟩
    rw [hnl] at hs hl6
    rw [hml] at hs' hl8
    have HSC := hid hs
    have HSL := hid hs'
    obtain ⟨A, cA, hu, nb, hAA⟩ := hs.open
    obtain ⟨A', cA', hu', mb, hAA'⟩ := hs'.open
    subst hu hu'
    obtain ⟨g, hg⟩ : ∃ b, lgB f c l = b := ⟨_, rfl⟩
    have HGG := hid ((hG.to hb0).is hnl hml (by omega) (by omega) hg)
    have HGS := hid ((lgS_C wd).is hnl hml (by omega) (by omega) hg)
    cases g
    · clear hn h ht hA hI hG hb0 hc hv hs hs' hg hnl hml hf hAA hAA'
      go_wp2_with (first | (go_at_call 19; apply own_at hO; (repeat (first | (with_reducible exact hO) | (with_reducible apply Own.alloc) | (with_reducible apply Own.drew) | ((with_reducible apply Own.set_at); (focus (show _ ≤ _; omega))))); have hG := hF; clear hF; clear hO; intro hO; refine own_call hO (fun hB => HGG.out _ _ _ hB (HSC.out.below hB) (HSL.out.below hB)) ?_; clear hO; intro w1 hO; (try simp only [World.size_alloc1, World.size_drew, Nat.reduceAdd] at hO); (try simp only [upd, updI, List.map_cons, List.map_nil, eq_self, if_true, if_false, reduceIte, Nat.add_eq_left, Nat.left_eq_add, Nat.reduceEqDiff, List.set_cons_zero, List.set_cons_succ, hG] at hO); clear hG; have hF := hO; (try simp only [Own, Item.Holds, apartI, CellsAt, Nat.reduceAdd, Nat.zero_add, List.mem_cons, List.not_mem_nil, or_false, forall_eq_or_imp, forall_eq, ne_eq, false_imp_iff, implies_true, and_true] at hF)) | (go_at_call 21; apply own_at hO; (repeat (first | (with_reducible exact hO) | (with_reducible apply Own.alloc) | (with_reducible apply Own.drew) | ((with_reducible apply Own.set_at); (focus (show _ ≤ _; omega))))); have hG := hF; clear hF; clear hO; intro hO; refine own_call hO (fun hB => HGS.out _ _ _ hB (HSC.out.below hB) (HSL.out.below hB)) ?_; clear hO; intro w1 hO; (try simp only [World.size_alloc1, World.size_drew, Nat.reduceAdd] at hO); (try simp only [upd, updI, List.map_cons, List.map_nil, eq_self, if_true, if_false, reduceIte, Nat.add_eq_left, Nat.left_eq_add, Nat.reduceEqDiff, List.set_cons_zero, List.set_cons_succ, hG] at hO); clear hG; have hF := hO; (try simp only [Own, Item.Holds, apartI, CellsAt, Nat.reduceAdd, Nat.zero_add, List.mem_cons, List.not_mem_nil, or_false, forall_eq_or_imp, forall_eq, ne_eq, false_imp_iff, implies_true, and_true] at hF)) | (go_at_call 15; apply own_at hO; (repeat (first | (with_reducible exact hO) | (with_reducible apply Own.alloc) | (with_reducible apply Own.drew) | ((with_reducible apply Own.set_at); (focus (show _ ≤ _; omega))))); have hG := hF; clear hF; clear hO; intro hO; refine own_call hO (fun hB => alive_any _ (HT.out.below hB)) ?_; clear hO; intro w1 hO; (try simp only [World.size_alloc1, World.size_drew, Nat.reduceAdd] at hO); (try simp only [upd, updI, List.map_cons, List.map_nil, eq_self, if_true, if_false, reduceIte, Nat.add_eq_left, Nat.left_eq_add, Nat.reduceEqDiff, List.set_cons_zero, List.set_cons_succ, hG] at hO); clear hG; have hF := hO; (try simp only [Own, Item.Holds, apartI, CellsAt, Nat.reduceAdd, Nat.zero_add, List.mem_cons, List.not_mem_nil, or_false, forall_eq_or_imp, forall_eq, ne_eq, false_imp_iff, implies_true, and_true] at hF)))
      go_ret
      exact ⟨rfl, btr HB0.out (Own.base (by (repeat (first | (with_reducible exact hO) | (with_reducible apply Own.alloc) | (with_reducible apply Own.drew) | ((with_reducible apply Own.set_at); (focus (show _ ≤ _; omega)))))))⟩
    · obtain ⟨h1, h2⟩ := lg_is hg
      obtain rfl : m = n := by have := (lfC_iff.1 h1).2.1; omega
      have HI := hid ((hI.to hb0).is hnl hml (by omega) (by omega) h2 rfl)
      have HPC := hid (cv_pv (lfC_iff.1 h1).1)
      have HPL := hid (lfC_iff.1 h1).2.2
      have HG := hid hg
      have HN := hid (And.intro hnl hml)
      clear hn h ht hA hI hG hb0 hc hv hs hs' hg hnl hml hf h1 h2
      go_wp2_with (first | (go_at_call 19; apply own_at hO; (repeat (first | (with_reducible exact hO) | (with_reducible apply Own.alloc) | (with_reducible apply Own.drew) | ((with_reducible apply Own.set_at); (focus (show _ ≤ _; omega))))); have hG := hF; clear hF; clear hO; intro hO; refine own_call hO (fun hB => HGG.out _ _ _ hB (HSC.out.below hB) (HSL.out.below hB)) ?_; clear hO; intro w1 hO; (try simp only [World.size_alloc1, World.size_drew, Nat.reduceAdd] at hO); (try simp only [upd, updI, List.map_cons, List.map_nil, eq_self, if_true, if_false, reduceIte, Nat.add_eq_left, Nat.left_eq_add, Nat.reduceEqDiff, List.set_cons_zero, List.set_cons_succ, hG] at hO); clear hG; have hF := hO; (try simp only [Own, Item.Holds, apartI, CellsAt, Nat.reduceAdd, Nat.zero_add, List.mem_cons, List.not_mem_nil, or_false, forall_eq_or_imp, forall_eq, ne_eq, false_imp_iff, implies_true, and_true] at hF)) | (go_at_call 21; apply own_at hO; (repeat (first | (with_reducible exact hO) | (with_reducible apply Own.alloc) | (with_reducible apply Own.drew) | ((with_reducible apply Own.set_at); (focus (show _ ≤ _; omega))))); have hG := hF; clear hF; clear hO; intro hO; refine own_call hO (fun hB => HGS.out _ _ _ hB (HSC.out.below hB) (HSL.out.below hB)) ?_; clear hO; intro w1 hO; (try simp only [World.size_alloc1, World.size_drew, Nat.reduceAdd] at hO); (try simp only [upd, updI, List.map_cons, List.map_nil, eq_self, if_true, if_false, reduceIte, Nat.add_eq_left, Nat.left_eq_add, Nat.reduceEqDiff, List.set_cons_zero, List.set_cons_succ, hG] at hO); clear hG; have hF := hO; (try simp only [Own, Item.Holds, apartI, CellsAt, Nat.reduceAdd, Nat.zero_add, List.mem_cons, List.not_mem_nil, or_false, forall_eq_or_imp, forall_eq, ne_eq, false_imp_iff, implies_true, and_true] at hF)))
      clear HGG HGS
      go_loopw [7] (fun e wr => ∃ i : Nat, i ≤ m ∧ e = .int .i64 i ∧ Own wd.heap.size (Below wd.heap.size wd) wr []) (fun e _ => m - (intOf e).toNat)
      case atStart => exact ⟨0, by omega, rfl, hO⟩
      case round =>
        clear hO hF
        obtain ⟨i, hi, rfl, hO⟩ := hrel
        have hF := hO; (try simp only [Own, Item.Holds, apartI, CellsAt, Nat.reduceAdd, Nat.zero_add, List.mem_cons, List.not_mem_nil, or_false, forall_eq_or_imp, forall_eq, ne_eq, false_imp_iff, implies_true, and_true] at hF)
        by_cases he : i = m
        · subst he
          go_wp2_with ((go_at_call 17; apply own_at hO; (repeat (first | (with_reducible exact hO) | (with_reducible apply Own.alloc) | (with_reducible apply Own.drew) | ((with_reducible apply Own.set_at); (focus (show _ ≤ _; omega))))); have hG := hF; clear hF; clear hO; intro hO; refine own_call_row hO (fun hB => HI.out _ _ _ hB (HSC.out.below hB) (HSL.out.below hB)) ?_; clear hO; intro v w1 hO; (try simp only [World.size_alloc1, World.size_drew, Nat.reduceAdd] at hO); (try simp only [upd, updI, List.map_cons, List.map_nil, eq_self, if_true, if_false, reduceIte, Nat.add_eq_left, Nat.left_eq_add, Nat.reduceEqDiff, List.set_cons_zero, List.set_cons_succ, hG] at hO); clear hG; have hF := hO; (try simp only [Own, Item.Holds, apartI, CellsAt, Nat.reduceAdd, Nat.zero_add, List.mem_cons, List.not_mem_nil, or_false, forall_eq_or_imp, forall_eq, ne_eq, false_imp_iff, implies_true, and_true] at hF)); obtain ⟨A1, c1, hv1⟩ := (SlAt.of_row hO.1.1).form; subst hv1; clear hF; have hF := hO; (try simp only [Own, Item.Holds, apartI, CellsAt, Nat.reduceAdd, Nat.zero_add, List.mem_cons, List.not_mem_nil, or_false, forall_eq_or_imp, forall_eq, ne_eq, false_imp_iff, implies_true, and_true] at hF))
          go_ret
          exact ⟨rfl, btr HB0.out (Own.base (by first | exact hO | (repeat (first | (with_reducible exact hO) | (with_reducible apply Own.alloc) | (with_reducible apply Own.drew) | ((with_reducible apply Own.set_at); (focus (show _ ≤ _; omega)))))))⟩
        · have hil : i < m := by omega
          have hil2 : (i : Int) < (m : Int) := by omega
          have hi0 : (0 : Int) ≤ (i : Int) := by omega
          obtain ⟨b1, o1, rfl, _, _, _⟩ := hAA (by omega)
          obtain ⟨b2, o2, rfl, _, _, _⟩ := hAA' (by omega)
          obtain ⟨x, hx⟩ : ∃ x, l[i]? = some x := ⟨_, List.getElem?_eq_getElem (by have := HN.out; omega)⟩
          obtain ⟨y, hy⟩ : ∃ x, c[i]? = some x := ⟨_, List.getElem?_eq_getElem (by have := HN.out; omega)⟩
          have HX := hid hx
          have HY := hid hy
          obtain ⟨hik, hd0, hd1⟩ := lg_tone HG.out hx hy
          have HIK := hid (fun W (hW : Below wd.heap.size wd W) => ikI14 hik W (HA.out.below hW))
          obtain ⟨zx, hzx⟩ : ∃ z, kyP x = z := ⟨_, rfl⟩
          obtain ⟨zy, hzy⟩ : ∃ z, kyP y = z := ⟨_, rfl⟩
          have HKX := hid (fun W (hW : Below wd.heap.size wd W) => keyI14 hzx W (HT.out.below hW))
          have HKY := hid (fun W (hW : Below wd.heap.size wd W) => keyI14 hzy W (HT.out.below hW))
          rw [hzx, hzy] at hd0 hd1
          obtain ⟨d, hd⟩ : ∃ d, zx - zy = d := ⟨_, rfl⟩
          have wd' : IntKind.i64.wrap (zx - zy) = d := by rw [hd]; exact IntWalk.i64_in _ (by omega)
          rw [hd] at hd0 hd1
          have y1 : ¬ d < 0 := by omega
          have y2 : ¬ 16 < d := by omega
          clear he hx hy hik hzx hzy hd hd0 hd1
          go_wp2_with fail
          apply own_code hO
          (repeat (first | (with_reducible exact hO) | (with_reducible apply Own.alloc) | (with_reducible apply Own.drew) | ((with_reducible apply Own.set_at); (focus (show _ ≤ _; omega)))))
          have hG := hF; clear hF; clear hO; intro hO
          (try simp only [World.size_alloc1, World.size_drew, Nat.reduceAdd] at hO); (try simp only [upd, updI, List.map_cons, List.map_nil, eq_self, if_true, if_false, reduceIte, Nat.add_eq_left, Nat.left_eq_add, Nat.reduceEqDiff, List.set_cons_zero, List.set_cons_succ, hG] at hO); clear hG
          refine region_own (X := fun _ => True) [] (by kernel_rfl) (hO) (trivial) (by first | exact XStab.true | exact XStab.rd | exact XStab.rdIf) ?_
          clear hO
          refine Sim.sP (i := 0) (d := some 37) (h := ?_)
          refine Sim.sP (i := 1) (d := some 38) (h := ?_)
          refine Sim.sP (i := 2) (d := some 39) (h := ?_)
          refine Sim.sO (i := 3) (d := some 40) (v := ?_) (hy := ?_) (h := ?_)
          rotate_left
          · first | refine Or.inl ⟨by rfl, fun w hO => ?_⟩ | (refine Or.inr ⟨by rfl, ?_⟩; with_reducible rfl)
            first | done | (have hF := hO; (try simp only [Own, Item.Holds, apartI, CellsAt, Nat.reduceAdd, Nat.zero_add, List.mem_cons, List.not_mem_nil, or_false, forall_eq_or_imp, forall_eq, ne_eq, false_imp_iff, implies_true, and_true] at hF); ((have ⟨x0, x1, x2⟩ := ptAt (HSL.out.below hO.base) HX.out; have ⟨z0, z1, z2⟩ := ptAt (HSC.out.below hO.base) HY.out)); refine Out.same ?_; go_simp; all_goals with_reducible rfl)
          refine Sim.sO (i := 4) (d := some 41) (v := ?_) (hy := ?_) (h := ?_)
          rotate_left
          · first | refine Or.inl ⟨by rfl, fun w hO => ?_⟩ | (refine Or.inr ⟨by rfl, ?_⟩; with_reducible rfl)
            first | done | (refine Out.call (f := 22) (args := ?_) ?_ ?_; rotate_left; (focus (go_simp; all_goals with_reducible rfl)); exact HKX.out _ hO.base)
          refine Sim.sP (i := 5) (d := some 42) (h := ?_)
          refine Sim.sP (i := 6) (d := some 43) (h := ?_)
          refine Sim.sP (i := 7) (d := some 44) (h := ?_)
          refine Sim.sO (i := 8) (d := some 45) (v := ?_) (hy := ?_) (h := ?_)
          rotate_left
          · first | refine Or.inl ⟨by rfl, fun w hO => ?_⟩ | (refine Or.inr ⟨by rfl, ?_⟩; with_reducible rfl)
            first | done | (have hF := hO; (try simp only [Own, Item.Holds, apartI, CellsAt, Nat.reduceAdd, Nat.zero_add, List.mem_cons, List.not_mem_nil, or_false, forall_eq_or_imp, forall_eq, ne_eq, false_imp_iff, implies_true, and_true] at hF); ((have ⟨x0, x1, x2⟩ := ptAt (HSL.out.below hO.base) HX.out; have ⟨z0, z1, z2⟩ := ptAt (HSC.out.below hO.base) HY.out)); refine Out.same ?_; go_simp; all_goals with_reducible rfl)
          refine Sim.sO (i := 9) (d := some 46) (v := ?_) (hy := ?_) (h := ?_)
          rotate_left
          · first | refine Or.inl ⟨by rfl, fun w hO => ?_⟩ | (refine Or.inr ⟨by rfl, ?_⟩; with_reducible rfl)
            first | done | (refine Out.call (f := 22) (args := ?_) ?_ ?_; rotate_left; (focus (go_simp; all_goals with_reducible rfl)); exact HKY.out _ hO.base)
          refine Sim.sP (i := 10) (d := some 47) (h := ?_)
          refine Sim.sP (i := 11) (d := some 8) (h := ?_)
          refine Sim.done (by kernel_rfl) (fun w1 hO hX => ?_) _
          (try simp only [World.size_alloc1, World.size_drew, Nat.reduceAdd] at hO); (try simp only [upd, updI, List.map_cons, List.map_nil, eq_self, if_true, if_false, reduceIte, Nat.add_eq_left, Nat.left_eq_add, Nat.reduceEqDiff, List.set_cons_zero, List.set_cons_succ] at hO)
          have hF := hO; (try simp only [Own, Item.Holds, apartI, CellsAt, Nat.reduceAdd, Nat.zero_add, List.mem_cons, List.not_mem_nil, or_false, forall_eq_or_imp, forall_eq, ne_eq, false_imp_iff, implies_true, and_true] at hF)
          have ⟨x0, x1, x2⟩ := ptAt (HSL.out.below hO.base) HX.out
          go_wp2_with (go_at_call 23; apply own_at hO; (repeat (first | (with_reducible exact hO) | (with_reducible apply Own.alloc) | (with_reducible apply Own.drew) | ((with_reducible apply Own.set_at); (focus (show _ ≤ _; omega))))); have hG := hF; clear hF; clear hO; intro hO; refine own_call hO (fun hB => HIK.out _ hB) ?_; clear hO; intro w1 hO; (try simp only [World.size_alloc1, World.size_drew, Nat.reduceAdd] at hO); (try simp only [upd, updI, List.map_cons, List.map_nil, eq_self, if_true, if_false, reduceIte, Nat.add_eq_left, Nat.left_eq_add, Nat.reduceEqDiff, List.set_cons_zero, List.set_cons_succ, hG] at hO); clear hG; have hF := hO; (try simp only [Own, Item.Holds, apartI, CellsAt, Nat.reduceAdd, Nat.zero_add, List.mem_cons, List.not_mem_nil, or_false, forall_eq_or_imp, forall_eq, ne_eq, false_imp_iff, implies_true, and_true] at hF))
          go_roundw
          case rel => exact ⟨i + 1, by omega, by go_num, hO⟩
          case measure => simp [intOf]; omega
  · have hl' : 1048576 < (n0 : Int) := by omega
    go_enter Tryd.func5, Tryd.ntmps5
    go_wp2
    go_ret
    exact ⟨rfl, Below.refl _ _⟩
end Go.Proofs.YtfdglkiehkilnaaDoor
