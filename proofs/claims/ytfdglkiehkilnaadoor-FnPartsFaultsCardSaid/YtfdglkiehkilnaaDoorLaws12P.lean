/- The walk of FnPartsFaults, from what the program's functions answer. -/
import Derived.Test.YtfdglkiehkilnaaDoorDraws12P
import Derived.Test.YtfdglkiehkilnaaDoorWalks12S
import Derived.Test.YtfdglkiehkilnaaDoorDrawBase
import Derived.Test.YtfdglkiehkilnaaDoorLawsPitch
import Derived.Test.YtfdglkiehkilnaaDoorWalks12P
import Derived.Test.YtfdglkiehkilnaaDoorRegionD
namespace Go.Proofs.YtfdglkiehkilnaaDoor
set_option linter.unusedSimpArgs false
set_option linter.unusedVariables false
set_option maxRecDepth 8000
open Go.RowKit

theorem len_first {ll : List (List Pt)} {l : List Pt} {s : Int} (h : ll[0]? = some l) (hs : stZ l = s) : (paF ll (0 + 1)).length = (paF ll 0).length + (if s = 0 then 0 else 1) := by
  rw [pa_first h hs, List.length_append]
  split <;> rfl
theorem len_next {ll : List (List Pt)} {p : Nat} {l' l : List Pt} {s m : Int} (h' : ll[p]? = some l') (h : ll[p + 1]? = some l) (hs : stZ l = s) (hm : mvZ l' l = m) : (paF ll (p + 1 + 1)).length = (paF ll (p + 1)).length + (if s = 0 then 0 else 1) + (if m = 0 then 0 else 1) := by
  rw [pa_next h' h hs hm, List.length_append, List.length_append]
  split <;> split <;> simp

set_option maxRecDepth 20000 in
set_option maxHeartbeats 8000000 in
theorem fnPartsFaults_of (hMv : MvS) (v : Value) (n0 : Nat) (w : World) (hn : n0 ≤ maxLen) (h : BytesB w w.heap.size v n0) (ht : TabH w)
    (hI : CPa 32 w) (hS : CSt 34 w) (hM : CMv 35 w) :
    Calls Tryd.prog 9 #[v] w fun e w' => e = .returned (.bool true) ∧ Below w.heap.size w w' := by
  obtain ⟨a0, c0, rfl⟩ := h.form
  have hn' : (n0 : Int) ≤ 9223372036854775807 := by unfold maxLen at hn; omega
  by_cases hl : n0 ≤ 1048576
  · have hl' : (n0 : Int) ≤ 1048576 := by omega
    go_enter Tryd.func9, Tryd.ntmps9
    go_wp2_with (go_at_call 31; refine (DrawPartsFaults_any _ n0 _ hn h).mono ?_; rintro e wd ⟨u, ll, hv, hl4, hl9, rfl, hs, hb0⟩)
    have HT := hid (ht.below hb0)
    have HB0 := hid hb0
    have hO := Own.start wd
    have hF := True.intro
    have h64 : ∀ l ∈ ll, ∀ x ∈ l, p64s x := fun l hl x hx => p64_of (hv l hl x hx)
    have hle : ∀ l ∈ ll, l.length ≤ 1048576 := fun l hl => by have := hl4 l hl; omega
    have HSL := hid hs
    obtain ⟨A, cA, rfl, nb, hA⟩ := hs.open
    obtain ⟨us, hus⟩ : ∃ us, paZ ll = us := ⟨_, rfl⟩
    obtain ⟨kk, hkk⟩ : ∃ kk, us.length = kk := ⟨_, rfl⟩
    have HI := hid ((hI.to hb0).is (by omega) hle h64 hus hkk)
    have HS := hid (CPa.is (g := 33) (w := wd) (fun va ll W _ h hn hle _ => paS_of hMv va ll W h hn hle) (by omega) hle h64 hus hkk)
    have HST := hid (hS.to hb0)
    have HMT := hid (hM.to hb0)
    have H64 := hid (And.intro h64 hle)
    obtain ⟨n, hnl⟩ : ∃ n, ll.length = n := ⟨_, rfl⟩
    have HNL := hid hnl
    rw [hnl] at nb hA hl9 ⊢
    have HSLn := hid (show ∀ W, Below wd.heap.size wd W → StkR W (.slice A n cA) ll from fun W hW => by have := HSL.out.below hW; rwa [hnl] at this)
    clear hn h ht hI hS hM hb0 hv hl4 hs h64 hle
    by_cases h8 : n ≤ 8
    · have h8' : (n : Int) ≤ 8 := by omega
      have hpz : paF ll n = us := by rw [← hus]; unfold paZ; rw [hnl, if_pos h8]
      have HK := hid (show (paF ll n).length = kk by rw [hpz]; exact hkk)
      have HUS := hid (And.intro hpz hkk)
      have hk16 : kk ≤ 16 := by have := paF_len ll n; rw [hpz, hkk] at this; omega
      clear hus hkk hnl hpz
      go_wp2_with (first | ((go_at_call 32; apply own_at hO; (repeat (first | (with_reducible exact hO) | (with_reducible apply Own.alloc) | (with_reducible apply Own.drew) | ((with_reducible apply Own.set_at); (focus (show _ ≤ _; omega))))); have hG := hF; clear hF; clear hO; intro hO; refine own_call_row hO (fun hB => HI.out _ _ hB (HSLn.out _ hB)) ?_; clear hO; intro v w1 hO; (try simp only [World.size_alloc1, World.size_drew, Nat.reduceAdd] at hO); (try simp only [upd, updI, List.map_cons, List.map_nil, eq_self, if_true, if_false, reduceIte, Nat.add_eq_left, Nat.left_eq_add, Nat.reduceEqDiff, List.set_cons_zero, List.set_cons_succ, hG] at hO); clear hG; have hF := hO; (try simp only [Own, Item.Holds, apartI, CellsAt, Nat.reduceAdd, Nat.zero_add, List.mem_cons, List.not_mem_nil, or_false, forall_eq_or_imp, forall_eq, ne_eq, false_imp_iff, implies_true, and_true] at hF)); clear HI; obtain ⟨A1, c1, hv1⟩ := (SlAt.of_row hO.1.1).form; subst hv1; clear hF; have hF := hO; (try simp only [Own, Item.Holds, apartI, CellsAt, Nat.reduceAdd, Nat.zero_add, List.mem_cons, List.not_mem_nil, or_false, forall_eq_or_imp, forall_eq, ne_eq, false_imp_iff, implies_true, and_true] at hF)) | ((go_at_call 33; apply own_at hO; (repeat (first | (with_reducible exact hO) | (with_reducible apply Own.alloc) | (with_reducible apply Own.drew) | ((with_reducible apply Own.set_at); (focus (show _ ≤ _; omega))))); have hG := hF; clear hF; clear hO; intro hO; refine own_call_row hO (fun hB => HS.out _ _ hB (HSLn.out _ hB)) ?_; clear hO; intro v w1 hO; (try simp only [World.size_alloc1, World.size_drew, Nat.reduceAdd] at hO); (try simp only [upd, updI, List.map_cons, List.map_nil, eq_self, if_true, if_false, reduceIte, Nat.add_eq_left, Nat.left_eq_add, Nat.reduceEqDiff, List.set_cons_zero, List.set_cons_succ, hG] at hO); clear hG; have hF := hO; (try simp only [Own, Item.Holds, apartI, CellsAt, Nat.reduceAdd, Nat.zero_add, List.mem_cons, List.not_mem_nil, or_false, forall_eq_or_imp, forall_eq, ne_eq, false_imp_iff, implies_true, and_true] at hF)); obtain ⟨A2, c2, hv2⟩ := (SlAt.of_row hO.1.1).form; subst hv2; clear hF; have hF := hO; (try simp only [Own, Item.Holds, apartI, CellsAt, Nat.reduceAdd, Nat.zero_add, List.mem_cons, List.not_mem_nil, or_false, forall_eq_or_imp, forall_eq, ne_eq, false_imp_iff, implies_true, and_true] at hF)))
      go_loopw [6, 7] (fun f e wr => ∃ j : Nat, j ≤ n ∧ e = .int .i64 j ∧ f = .int .i64 ((paF ll j).length : Int) ∧ Own wd.heap.size (Below wd.heap.size wd) wr [.row 36 2 (.slice A2 kk c2) kk (tnC us), .row 36 2 (.slice A1 kk c1) kk (tnC us)]) (fun _ e _ => n - (intOf e).toNat)
      case atStart => exact ⟨0, by omega, rfl, rfl, hO⟩
      case round =>
        clear hO hF
        obtain ⟨j, hj, rfl, rfl, hO⟩ := hrel
        have hF := hO; (try simp only [Own, Item.Holds, apartI, CellsAt, Nat.reduceAdd, Nat.zero_add, List.mem_cons, List.not_mem_nil, or_false, forall_eq_or_imp, forall_eq, ne_eq, false_imp_iff, implies_true, and_true] at hF)
        by_cases he : j = n
        · subst he
          rw [HK.out]
          go_wp2_with fail
          go_loopw [8] (fun e wr => ∃ i : Nat, i ≤ kk ∧ e = .int .i64 i ∧ Own wd.heap.size (Below wd.heap.size wd) wr [.row 36 2 (.slice A2 kk c2) kk (tnC us), .row 36 2 (.slice A1 kk c1) kk (tnC us)]) (fun e _ => kk - (intOf e).toNat)
          case atStart => exact ⟨0, by omega, rfl, hO⟩
          case round =>
            clear hO hF
            obtain ⟨i, hi, rfl, hO⟩ := hrel
            have hF := hO; (try simp only [Own, Item.Holds, apartI, CellsAt, Nat.reduceAdd, Nat.zero_add, List.mem_cons, List.not_mem_nil, or_false, forall_eq_or_imp, forall_eq, ne_eq, false_imp_iff, implies_true, and_true] at hF)
            by_cases he : i = kk
            · subst he
              go_wp2_with fail
              go_ret
              exact ⟨rfl, btr HB0.out (Own.base (by first | exact hO | (repeat (first | (with_reducible exact hO) | (with_reducible apply Own.alloc) | (with_reducible apply Own.drew) | ((with_reducible apply Own.set_at); (focus (show _ ≤ _; omega)))))))⟩
            · have hi1 : i < kk := by omega
              have hi2 : (i : Int) < (kk : Int) := by omega
              have hi0 : (0 : Int) ≤ (i : Int) := by omega
              obtain ⟨c, hc⟩ : ∃ c, us[i]? = some c := ⟨_, List.getElem?_eq_getElem (by have := HUS.out.2; omega)⟩
              have HC := hid hc
              have hcb := paF_mem (ll := ll) (n := j) (p := c) (by rw [HUS.out.1]; exact List.mem_of_getElem? hc)
              obtain ⟨q2, cp2, hv2, _, _⟩ := hO.row_open (by omega)
              cases hv2
              obtain ⟨q1, cp1, hv1, _, _⟩ := hO.2.row_open (by omega)
              cases hv1
              have y1 : ¬ c.2 < 1 := by omega
              have y2 : ¬ 7 < c.2 := by omega
              have y3 : decide (c.2 < 1) = false := decide_eq_false y1
              have y4 : decide (7 < c.2) = false := decide_eq_false y2
              have wi0 : IntKind.i64.wrap ((i : Int) + 1) = (i : Int) + 1 := IntWalk.i64_in _ (by omega)
              rcases (show i = 0 ∨ ∃ p, i = p + 1 by cases i with | zero => exact Or.inl rfl | succ p => exact Or.inr ⟨p, rfl⟩) with h0 | ⟨p, rfl⟩
              · have z1 : decide ((0 : Int) < (i : Int)) = false := decide_eq_false (by omega)
                have z2 : decide (0 < i) = false := decide_eq_false (by omega)
                clear h0 he hc hcb
                go_wp2_with fail
                apply own_code hO
                (repeat (first | (with_reducible exact hO) | (with_reducible apply Own.alloc) | (with_reducible apply Own.drew) | ((with_reducible apply Own.set_at); (focus (show _ ≤ _; omega)))))
                have hG := hF; clear hF; clear hO; intro hO
                (try simp only [World.size_alloc1, World.size_drew, Nat.reduceAdd] at hO); (try simp only [upd, updI, List.map_cons, List.map_nil, eq_self, if_true, if_false, reduceIte, Nat.add_eq_left, Nat.left_eq_add, Nat.reduceEqDiff, List.set_cons_zero, List.set_cons_succ, hG] at hO); clear hG
                refine region_own (X := fun _ => True) [] (by kernel_rfl) (hO) (trivial) (by first | exact XStab.true | exact XStab.rd | exact XStab.rdIf) ?_
                clear hO
                refine Sim.sP (i := 0) (d := some 69) (h := ?_)
                refine Sim.sP (i := 1) (d := some 70) (h := ?_)
                refine Sim.sP (i := 2) (d := some 71) (h := ?_)
                refine Sim.sO (i := 3) (d := some 72) (v := ?_) (hy := ?_) (h := ?_)
                rotate_left
                · first | refine Or.inl ⟨by rfl, fun w hO => ?_⟩ | (refine Or.inr ⟨by rfl, ?_⟩; with_reducible rfl)
                  first | done | (have hF := hO; (try simp only [Own, Item.Holds, apartI, CellsAt, Nat.reduceAdd, Nat.zero_add, List.mem_cons, List.not_mem_nil, or_false, forall_eq_or_imp, forall_eq, ne_eq, false_imp_iff, implies_true, and_true] at hF); ((have e0 := hO.2.row_cell (tnC_at HC.out).1; have e1 := hO.2.row_cell (tnC_at HC.out).2; have f0 := hO.row_cell (tnC_at HC.out).1; have f1 := hO.row_cell (tnC_at HC.out).2)); refine Out.same ?_; go_simp; all_goals with_reducible rfl)
                refine Sim.sP (i := 4) (d := some 73) (h := ?_)
                refine Sim.sP (i := 5) (d := some 74) (h := ?_)
                refine Sim.sP (i := 6) (d := some 75) (h := ?_)
                refine Sim.sO (i := 7) (d := some 76) (v := ?_) (hy := ?_) (h := ?_)
                rotate_left
                · first | refine Or.inl ⟨by rfl, fun w hO => ?_⟩ | (refine Or.inr ⟨by rfl, ?_⟩; with_reducible rfl)
                  first | done | (have hF := hO; (try simp only [Own, Item.Holds, apartI, CellsAt, Nat.reduceAdd, Nat.zero_add, List.mem_cons, List.not_mem_nil, or_false, forall_eq_or_imp, forall_eq, ne_eq, false_imp_iff, implies_true, and_true] at hF); ((have e0 := hO.2.row_cell (tnC_at HC.out).1; have e1 := hO.2.row_cell (tnC_at HC.out).2; have f0 := hO.row_cell (tnC_at HC.out).1; have f1 := hO.row_cell (tnC_at HC.out).2)); refine Out.same ?_; go_simp; all_goals with_reducible rfl)
                refine Sim.sP (i := 8) (d := some 77) (h := ?_)
                refine Sim.sP (i := 9) (d := some 78) (h := ?_)
                refine Sim.sP (i := 10) (d := some 79) (h := ?_)
                refine Sim.sP (i := 11) (d := some 80) (h := ?_)
                refine Sim.sP (i := 12) (d := some 81) (h := ?_)
                refine Sim.sP (i := 13) (d := some 82) (h := ?_)
                refine Sim.sP (i := 14) (d := some 83) (h := ?_)
                refine Sim.sP (i := 15) (d := some 84) (h := ?_)
                refine Sim.sP (i := 16) (d := some 85) (h := ?_)
                refine Sim.sO (i := 17) (d := some 86) (v := ?_) (hy := ?_) (h := ?_)
                rotate_left
                · first | refine Or.inl ⟨by rfl, fun w hO => ?_⟩ | (refine Or.inr ⟨by rfl, ?_⟩; with_reducible rfl)
                  first | done | (have hF := hO; (try simp only [Own, Item.Holds, apartI, CellsAt, Nat.reduceAdd, Nat.zero_add, List.mem_cons, List.not_mem_nil, or_false, forall_eq_or_imp, forall_eq, ne_eq, false_imp_iff, implies_true, and_true] at hF); ((have e0 := hO.2.row_cell (tnC_at HC.out).1; have e1 := hO.2.row_cell (tnC_at HC.out).2; have f0 := hO.row_cell (tnC_at HC.out).1; have f1 := hO.row_cell (tnC_at HC.out).2)); refine Out.same ?_; go_simp; all_goals with_reducible rfl)
                refine Sim.sP (i := 18) (d := some 87) (h := ?_)
                refine Sim.sP (i := 19) (d := some 88) (h := ?_)
                refine Sim.sP (i := 20) (d := some 89) (h := ?_)
                refine Sim.sP (i := 21) (d := some 90) (h := ?_)
                refine Sim.sP (i := 22) (d := some 91) (h := ?_)
                refine Sim.sO (i := 23) (d := some 92) (v := ?_) (hy := ?_) (h := ?_)
                rotate_left
                · first | refine Or.inl ⟨by rfl, fun w hO => ?_⟩ | (refine Or.inr ⟨by rfl, ?_⟩; with_reducible rfl)
                  first | done | (have hF := hO; (try simp only [Own, Item.Holds, apartI, CellsAt, Nat.reduceAdd, Nat.zero_add, List.mem_cons, List.not_mem_nil, or_false, forall_eq_or_imp, forall_eq, ne_eq, false_imp_iff, implies_true, and_true] at hF); ((have e0 := hO.2.row_cell (tnC_at HC.out).1; have e1 := hO.2.row_cell (tnC_at HC.out).2; have f0 := hO.row_cell (tnC_at HC.out).1; have f1 := hO.row_cell (tnC_at HC.out).2)); refine Out.same ?_; go_simp; all_goals with_reducible rfl)
                refine Sim.sP (i := 24) (d := some 93) (h := ?_)
                refine Sim.sP (i := 25) (d := some 94) (h := ?_)
                refine Sim.sP (i := 26) (d := some 95) (h := ?_)
                refine Sim.sP (i := 27) (d := some 96) (h := ?_)
                refine Sim.sP (i := 28) (d := some 97) (h := ?_)
                refine Sim.sP (i := 29) (d := some 98) (h := ?_)
                refine Sim.sP (i := 30) (d := some 99) (h := ?_)
                refine Sim.sP (i := 31) (d := some 100) (h := ?_)
                refine Sim.sO (i := 32) (d := some 101) (v := ?_) (hy := ?_) (h := ?_)
                rotate_left
                · first | refine Or.inl ⟨by rfl, fun w hO => ?_⟩ | (refine Or.inr ⟨by rfl, ?_⟩; with_reducible rfl)
                  first | done | (have hF := hO; (try simp only [Own, Item.Holds, apartI, CellsAt, Nat.reduceAdd, Nat.zero_add, List.mem_cons, List.not_mem_nil, or_false, forall_eq_or_imp, forall_eq, ne_eq, false_imp_iff, implies_true, and_true] at hF); ((have e0 := hO.2.row_cell (tnC_at HC.out).1; have e1 := hO.2.row_cell (tnC_at HC.out).2; have f0 := hO.row_cell (tnC_at HC.out).1; have f1 := hO.row_cell (tnC_at HC.out).2)); refine Out.same ?_; go_simp; all_goals with_reducible rfl)
                refine Sim.sP (i := 33) (d := some 102) (h := ?_)
                refine Sim.sP (i := 34) (d := some 103) (h := ?_)
                refine Sim.sP (i := 35) (d := some 104) (h := ?_)
                refine Sim.sP (i := 36) (d := some 105) (h := ?_)
                refine Sim.sP (i := 37) (d := some 106) (h := ?_)
                refine Sim.sP (i := 38) (d := some 107) (h := ?_)
                refine Sim.sP (i := 39) (d := some 108) (h := ?_)
                refine Sim.sO (i := 40) (d := some 109) (v := ?_) (hy := ?_) (h := ?_)
                rotate_left
                · first | refine Or.inl ⟨by rfl, fun w hO => ?_⟩ | (refine Or.inr ⟨by rfl, ?_⟩; with_reducible rfl)
                  first | done | (have hF := hO; (try simp only [Own, Item.Holds, apartI, CellsAt, Nat.reduceAdd, Nat.zero_add, List.mem_cons, List.not_mem_nil, or_false, forall_eq_or_imp, forall_eq, ne_eq, false_imp_iff, implies_true, and_true] at hF); ((have e0 := hO.2.row_cell (tnC_at HC.out).1; have e1 := hO.2.row_cell (tnC_at HC.out).2; have f0 := hO.row_cell (tnC_at HC.out).1; have f1 := hO.row_cell (tnC_at HC.out).2)); refine Out.same ?_; go_simp; all_goals with_reducible rfl)
                refine Sim.sP (i := 41) (d := some 110) (h := ?_)
                refine Sim.sP (i := 42) (d := some 111) (h := ?_)
                refine Sim.done (by kernel_rfl) (fun w1 hO hX => ?_) _
                (try simp only [World.size_alloc1, World.size_drew, Nat.reduceAdd] at hO); (try simp only [upd, updI, List.map_cons, List.map_nil, eq_self, if_true, if_false, reduceIte, Nat.add_eq_left, Nat.left_eq_add, Nat.reduceEqDiff, List.set_cons_zero, List.set_cons_succ] at hO)
                have hF := hO; (try simp only [Own, Item.Holds, apartI, CellsAt, Nat.reduceAdd, Nat.zero_add, List.mem_cons, List.not_mem_nil, or_false, forall_eq_or_imp, forall_eq, ne_eq, false_imp_iff, implies_true, and_true] at hF)
                all_goals
                  go_wp2
                  go_roundw
                  case rel => exact ⟨i + 1, by omega, by go_num, hO⟩
                  case measure => simp [intOf]; omega
              · obtain ⟨c9, hc9⟩ : ∃ c, us[p]? = some c := ⟨_, List.getElem?_eq_getElem (by have := HUS.out.2; omega)⟩
                have HC9 := hid hc9
                have hup : c9.1 ≤ c.1 := pa_up (ll := ll) (n := j) (by rw [HUS.out.1]; exact hc9) (by rw [HUS.out.1]; exact hc)
                have z1 : decide (c.1 < c9.1) = false := decide_eq_false (by omega)
                have z2 : ¬ c.1 < c9.1 := by omega
                have z3 : (0 : Int) < (p : Int) + 1 := by omega
                have z4 : decide ((0 : Int) < (p : Int) + 1) = true := decide_eq_true z3
                have z5 : (0 : Int) ≤ (p : Int) := by omega
                have z9 : (0 : Int) ≤ (p : Int) + 1 := by omega
                have z6 : (p : Int) < (kk : Int) := by omega
                have z7 : p < kk := by omega
                have z8 : (p : Int) + 1 < (kk : Int) := by omega
                have wi : IntKind.i64.wrap ((p : Int) + 1 - 1) = (p : Int) := by rw [show (p : Int) + 1 - 1 = (p : Int) by omega]; exact IntWalk.i64_in _ (by omega)
                have wi2 : IntKind.i64.wrap (p : Int) = (p : Int) := IntWalk.i64_in _ (by omega)
                have wj : IntKind.i64.wrap ((p : Int) + 1 + 1) = (p : Int) + 1 + 1 := IntWalk.i64_in _ (by omega)
                clear he hc hc9 hcb hup
                go_wp2_with fail
                apply own_code hO
                (repeat (first | (with_reducible exact hO) | (with_reducible apply Own.alloc) | (with_reducible apply Own.drew) | ((with_reducible apply Own.set_at); (focus (show _ ≤ _; omega)))))
                have hG := hF; clear hF; clear hO; intro hO
                (try simp only [World.size_alloc1, World.size_drew, Nat.reduceAdd] at hO); (try simp only [upd, updI, List.map_cons, List.map_nil, eq_self, if_true, if_false, reduceIte, Nat.add_eq_left, Nat.left_eq_add, Nat.reduceEqDiff, List.set_cons_zero, List.set_cons_succ, hG] at hO); clear hG
                refine region_own (X := fun _ => True) [] (by kernel_rfl) (hO) (trivial) (by first | exact XStab.true | exact XStab.rd | exact XStab.rdIf) ?_
                clear hO
                refine Sim.sP (i := 0) (d := some 69) (h := ?_)
                refine Sim.sP (i := 1) (d := some 70) (h := ?_)
                refine Sim.sP (i := 2) (d := some 71) (h := ?_)
                refine Sim.sO (i := 3) (d := some 72) (v := ?_) (hy := ?_) (h := ?_)
                rotate_left
                · first | refine Or.inl ⟨by rfl, fun w hO => ?_⟩ | (refine Or.inr ⟨by rfl, ?_⟩; with_reducible rfl)
                  first | done | (have hF := hO; (try simp only [Own, Item.Holds, apartI, CellsAt, Nat.reduceAdd, Nat.zero_add, List.mem_cons, List.not_mem_nil, or_false, forall_eq_or_imp, forall_eq, ne_eq, false_imp_iff, implies_true, and_true] at hF); ((have e0 := hO.2.row_cell (tnC_at HC.out).1; have e1 := hO.2.row_cell (tnC_at HC.out).2; have f0 := hO.row_cell (tnC_at HC.out).1; have f1 := hO.row_cell (tnC_at HC.out).2; have g0 := hO.2.row_cell (tnC_at HC9.out).1; have g1 := hO.2.row_cell (tnC_at HC9.out).2)); refine Out.same ?_; go_simp; all_goals with_reducible rfl)
                refine Sim.sP (i := 4) (d := some 73) (h := ?_)
                refine Sim.sP (i := 5) (d := some 74) (h := ?_)
                refine Sim.sP (i := 6) (d := some 75) (h := ?_)
                refine Sim.sO (i := 7) (d := some 76) (v := ?_) (hy := ?_) (h := ?_)
                rotate_left
                · first | refine Or.inl ⟨by rfl, fun w hO => ?_⟩ | (refine Or.inr ⟨by rfl, ?_⟩; with_reducible rfl)
                  first | done | (have hF := hO; (try simp only [Own, Item.Holds, apartI, CellsAt, Nat.reduceAdd, Nat.zero_add, List.mem_cons, List.not_mem_nil, or_false, forall_eq_or_imp, forall_eq, ne_eq, false_imp_iff, implies_true, and_true] at hF); ((have e0 := hO.2.row_cell (tnC_at HC.out).1; have e1 := hO.2.row_cell (tnC_at HC.out).2; have f0 := hO.row_cell (tnC_at HC.out).1; have f1 := hO.row_cell (tnC_at HC.out).2; have g0 := hO.2.row_cell (tnC_at HC9.out).1; have g1 := hO.2.row_cell (tnC_at HC9.out).2)); refine Out.same ?_; go_simp; all_goals with_reducible rfl)
                refine Sim.sP (i := 8) (d := some 77) (h := ?_)
                refine Sim.sP (i := 9) (d := some 78) (h := ?_)
                refine Sim.sP (i := 10) (d := some 79) (h := ?_)
                refine Sim.sP (i := 11) (d := some 80) (h := ?_)
                refine Sim.sP (i := 12) (d := some 81) (h := ?_)
                refine Sim.sP (i := 13) (d := some 82) (h := ?_)
                refine Sim.sP (i := 14) (d := some 83) (h := ?_)
                refine Sim.sP (i := 15) (d := some 84) (h := ?_)
                refine Sim.sP (i := 16) (d := some 85) (h := ?_)
                refine Sim.sO (i := 17) (d := some 86) (v := ?_) (hy := ?_) (h := ?_)
                rotate_left
                · first | refine Or.inl ⟨by rfl, fun w hO => ?_⟩ | (refine Or.inr ⟨by rfl, ?_⟩; with_reducible rfl)
                  first | done | (have hF := hO; (try simp only [Own, Item.Holds, apartI, CellsAt, Nat.reduceAdd, Nat.zero_add, List.mem_cons, List.not_mem_nil, or_false, forall_eq_or_imp, forall_eq, ne_eq, false_imp_iff, implies_true, and_true] at hF); ((have e0 := hO.2.row_cell (tnC_at HC.out).1; have e1 := hO.2.row_cell (tnC_at HC.out).2; have f0 := hO.row_cell (tnC_at HC.out).1; have f1 := hO.row_cell (tnC_at HC.out).2; have g0 := hO.2.row_cell (tnC_at HC9.out).1; have g1 := hO.2.row_cell (tnC_at HC9.out).2)); refine Out.same ?_; go_simp; all_goals with_reducible rfl)
                refine Sim.sP (i := 18) (d := some 87) (h := ?_)
                refine Sim.sP (i := 19) (d := some 88) (h := ?_)
                refine Sim.sP (i := 20) (d := some 89) (h := ?_)
                refine Sim.sP (i := 21) (d := some 90) (h := ?_)
                refine Sim.sP (i := 22) (d := some 91) (h := ?_)
                refine Sim.sO (i := 23) (d := some 92) (v := ?_) (hy := ?_) (h := ?_)
                rotate_left
                · first | refine Or.inl ⟨by rfl, fun w hO => ?_⟩ | (refine Or.inr ⟨by rfl, ?_⟩; with_reducible rfl)
                  first | done | (have hF := hO; (try simp only [Own, Item.Holds, apartI, CellsAt, Nat.reduceAdd, Nat.zero_add, List.mem_cons, List.not_mem_nil, or_false, forall_eq_or_imp, forall_eq, ne_eq, false_imp_iff, implies_true, and_true] at hF); ((have e0 := hO.2.row_cell (tnC_at HC.out).1; have e1 := hO.2.row_cell (tnC_at HC.out).2; have f0 := hO.row_cell (tnC_at HC.out).1; have f1 := hO.row_cell (tnC_at HC.out).2; have g0 := hO.2.row_cell (tnC_at HC9.out).1; have g1 := hO.2.row_cell (tnC_at HC9.out).2)); refine Out.same ?_; go_simp; all_goals with_reducible rfl)
                refine Sim.sP (i := 24) (d := some 93) (h := ?_)
                refine Sim.sP (i := 25) (d := some 94) (h := ?_)
                refine Sim.sP (i := 26) (d := some 95) (h := ?_)
                refine Sim.sP (i := 27) (d := some 96) (h := ?_)
                refine Sim.sP (i := 28) (d := some 97) (h := ?_)
                refine Sim.sP (i := 29) (d := some 98) (h := ?_)
                refine Sim.sP (i := 30) (d := some 99) (h := ?_)
                refine Sim.sP (i := 31) (d := some 100) (h := ?_)
                refine Sim.sO (i := 32) (d := some 101) (v := ?_) (hy := ?_) (h := ?_)
                rotate_left
                · first | refine Or.inl ⟨by rfl, fun w hO => ?_⟩ | (refine Or.inr ⟨by rfl, ?_⟩; with_reducible rfl)
                  first | done | (have hF := hO; (try simp only [Own, Item.Holds, apartI, CellsAt, Nat.reduceAdd, Nat.zero_add, List.mem_cons, List.not_mem_nil, or_false, forall_eq_or_imp, forall_eq, ne_eq, false_imp_iff, implies_true, and_true] at hF); ((have e0 := hO.2.row_cell (tnC_at HC.out).1; have e1 := hO.2.row_cell (tnC_at HC.out).2; have f0 := hO.row_cell (tnC_at HC.out).1; have f1 := hO.row_cell (tnC_at HC.out).2; have g0 := hO.2.row_cell (tnC_at HC9.out).1; have g1 := hO.2.row_cell (tnC_at HC9.out).2)); refine Out.same ?_; go_simp; all_goals with_reducible rfl)
                refine Sim.sP (i := 33) (d := some 102) (h := ?_)
                refine Sim.sP (i := 34) (d := some 103) (h := ?_)
                refine Sim.sP (i := 35) (d := some 104) (h := ?_)
                refine Sim.sP (i := 36) (d := some 105) (h := ?_)
                refine Sim.sP (i := 37) (d := some 106) (h := ?_)
                refine Sim.sP (i := 38) (d := some 107) (h := ?_)
                refine Sim.sP (i := 39) (d := some 108) (h := ?_)
                refine Sim.sO (i := 40) (d := some 109) (v := ?_) (hy := ?_) (h := ?_)
                rotate_left
                · first | refine Or.inl ⟨by rfl, fun w hO => ?_⟩ | (refine Or.inr ⟨by rfl, ?_⟩; with_reducible rfl)
                  first | done | (have hF := hO; (try simp only [Own, Item.Holds, apartI, CellsAt, Nat.reduceAdd, Nat.zero_add, List.mem_cons, List.not_mem_nil, or_false, forall_eq_or_imp, forall_eq, ne_eq, false_imp_iff, implies_true, and_true] at hF); ((have e0 := hO.2.row_cell (tnC_at HC.out).1; have e1 := hO.2.row_cell (tnC_at HC.out).2; have f0 := hO.row_cell (tnC_at HC.out).1; have f1 := hO.row_cell (tnC_at HC.out).2; have g0 := hO.2.row_cell (tnC_at HC9.out).1; have g1 := hO.2.row_cell (tnC_at HC9.out).2)); refine Out.same ?_; go_simp; all_goals with_reducible rfl)
                refine Sim.sP (i := 41) (d := some 110) (h := ?_)
                refine Sim.sP (i := 42) (d := some 111) (h := ?_)
                refine Sim.done (by kernel_rfl) (fun w1 hO hX => ?_) _
                (try simp only [World.size_alloc1, World.size_drew, Nat.reduceAdd] at hO); (try simp only [upd, updI, List.map_cons, List.map_nil, eq_self, if_true, if_false, reduceIte, Nat.add_eq_left, Nat.left_eq_add, Nat.reduceEqDiff, List.set_cons_zero, List.set_cons_succ] at hO)
                have hF := hO; (try simp only [Own, Item.Holds, apartI, CellsAt, Nat.reduceAdd, Nat.zero_add, List.mem_cons, List.not_mem_nil, or_false, forall_eq_or_imp, forall_eq, ne_eq, false_imp_iff, implies_true, and_true] at hF)
                all_goals
                  go_wp2
                  go_roundw
                  case rel => exact ⟨p + 1 + 1, by omega, by go_num, hO⟩
                  case measure => simp [intOf]; omega
        · have hjl : j < n := by omega
          have hj2 : (j : Int) < (n : Int) := by omega
          have hj0 : (0 : Int) ≤ (j : Int) := by omega
          obtain ⟨b, off, rfl, hc1, hc2, hbb, hcell⟩ := hA (by omega)
          obtain ⟨l, hl⟩ : ∃ l, ll[j]? = some l := ⟨_, List.getElem?_eq_getElem (by have := HNL.out; omega)⟩
          obtain ⟨A3, c3, hs3, d3⟩ := hcell j l hl
          have hll := H64.out.2 l (List.mem_of_getElem? hl)
          have hl6 := H64.out.1 l (List.mem_of_getElem? hl)
          obtain ⟨n1, hn1⟩ : ∃ n, l.length = n := ⟨_, rfl⟩
          rw [hn1] at hs3 d3 hll
          obtain ⟨s, hs⟩ : ∃ s, stZ l = s := ⟨_, rfl⟩
          have HSJ := hid (fun W (hW : Below wd.heap.size wd W) => HST.out.is hn1 hll hl6 hs _ W hW (hs3.below hW))
          have HD1 := hid (fun W (hW : Below wd.heap.size wd W) => ((bcell hW).1 b (off + j) hbb).trans d3)
          have hql := paF_len ll j
          have e1 := HD1.out _ hO.base
          obtain ⟨q, hq⟩ : ∃ q, (paF ll j).length = q := ⟨_, rfl⟩
          rw [hq] at hql
          have wq : IntKind.i64.wrap ((q : Int) + 1) = (q : Int) + 1 := IntWalk.i64_in _ (by omega)
          have wq2 : IntKind.i64.wrap ((q : Int) + 1 + 1) = (q : Int) + 1 + 1 := IntWalk.i64_in _ (by omega)
          have wi0 : IntKind.i64.wrap ((j : Int) + 1) = (j : Int) + 1 := IntWalk.i64_in _ (by omega)
          rcases (show j = 0 ∨ ∃ p, j = p + 1 by cases j with | zero => exact Or.inl rfl | succ p => exact Or.inr ⟨p, rfl⟩) with h0 | ⟨p, rfl⟩
          · have HU0 : (paF ll (j + 1)).length = q + (if s = 0 then 0 else 1) := by rw [← hq]; subst h0; exact len_first hl hs
            have z1 : decide ((0 : Int) < (j : Int)) = false := decide_eq_false (by omega)
            have z2 : decide (0 < j) = false := decide_eq_false (by omega)
            rw [hq]
            by_cases hs0 : s = 0
            · subst hs0
              have HU := hid (show (paF ll (j + 1)).length = q by rw [HU0]; simp)
              clear HU0 he hl hcell hs3 d3 hs hq hn1 hl6 h0
              go_wp2_with (go_at_call 34; apply own_at hO; (repeat (first | (with_reducible exact hO) | (with_reducible apply Own.alloc) | (with_reducible apply Own.drew) | ((with_reducible apply Own.set_at); (focus (show _ ≤ _; omega))))); have hG := hF; clear hF; clear hO; intro hO; refine own_call hO (fun hB => HSJ.out _ hB) ?_; clear hO; intro w1 hO; (try simp only [World.size_alloc1, World.size_drew, Nat.reduceAdd] at hO); (try simp only [upd, updI, List.map_cons, List.map_nil, eq_self, if_true, if_false, reduceIte, Nat.add_eq_left, Nat.left_eq_add, Nat.reduceEqDiff, List.set_cons_zero, List.set_cons_succ, hG] at hO); clear hG; have hF := hO; (try simp only [Own, Item.Holds, apartI, CellsAt, Nat.reduceAdd, Nat.zero_add, List.mem_cons, List.not_mem_nil, or_false, forall_eq_or_imp, forall_eq, ne_eq, false_imp_iff, implies_true, and_true] at hF))
              apply own_code hO
              (repeat (first | (with_reducible exact hO) | (with_reducible apply Own.alloc) | (with_reducible apply Own.drew) | ((with_reducible apply Own.set_at); (focus (show _ ≤ _; omega)))))
              have hG := hF; clear hF; clear hO; intro hO
              (try simp only [World.size_alloc1, World.size_drew, Nat.reduceAdd] at hO); (try simp only [upd, updI, List.map_cons, List.map_nil, eq_self, if_true, if_false, reduceIte, Nat.add_eq_left, Nat.left_eq_add, Nat.reduceEqDiff, List.set_cons_zero, List.set_cons_succ, hG] at hO); clear hG
              refine region_own (X := fun _ => True) [] (by kernel_rfl) (hO) (trivial) (by first | exact XStab.true | exact XStab.rd | exact XStab.rdIf) ?_
              clear hO
              refine Sim.sP (i := 0) (d := some 46) (h := ?_)
              refine Sim.sP (i := 1) (d := some 47) (h := ?_)
              refine Sim.sP (i := 2) (d := some 48) (h := ?_)
              refine Sim.sP (i := 3) (d := some 49) (h := ?_)
              refine Sim.sP (i := 4) (d := some 50) (h := ?_)
              refine Sim.sP (i := 5) (d := some 51) (h := ?_)
              refine Sim.sP (i := 6) (d := some 52) (h := ?_)
              refine Sim.sP (i := 7) (d := some 53) (h := ?_)
              refine Sim.sP (i := 8) (d := some 54) (h := ?_)
              refine Sim.sP (i := 9) (d := some 55) (h := ?_)
              refine Sim.sP (i := 10) (d := some 56) (h := ?_)
              refine Sim.sP (i := 11) (d := some 57) (h := ?_)
              refine Sim.sP (i := 12) (d := some 58) (h := ?_)
              refine Sim.sP (i := 13) (d := some 59) (h := ?_)
              refine Sim.sP (i := 14) (d := some 60) (h := ?_)
              refine Sim.done (by kernel_rfl) (fun w1 hO hX => ?_) _
              (try simp only [World.size_alloc1, World.size_drew, Nat.reduceAdd] at hO); (try simp only [upd, updI, List.map_cons, List.map_nil, eq_self, if_true, if_false, reduceIte, Nat.add_eq_left, Nat.left_eq_add, Nat.reduceEqDiff, List.set_cons_zero, List.set_cons_succ] at hO)
              have hF := hO; (try simp only [Own, Item.Holds, apartI, CellsAt, Nat.reduceAdd, Nat.zero_add, List.mem_cons, List.not_mem_nil, or_false, forall_eq_or_imp, forall_eq, ne_eq, false_imp_iff, implies_true, and_true] at hF)
              all_goals
                go_wp2
                go_roundw
                case rel => exact ⟨j + 1, by omega, by go_num, by rw [HU.out], hO⟩
                case measure => simp [intOf]; omega
            · have hs2 : (s == 0) = false := by simp [hs0]
              have hs3 : (s != 0) = true := by simp [hs0]
              have HU := hid (show (paF ll (j + 1)).length = q + 1 by rw [HU0]; simp [hs0])
              clear HU0 he hl hcell hs3 d3 hs hq hn1 hl6 h0 hs0
              go_wp2_with (go_at_call 34; apply own_at hO; (repeat (first | (with_reducible exact hO) | (with_reducible apply Own.alloc) | (with_reducible apply Own.drew) | ((with_reducible apply Own.set_at); (focus (show _ ≤ _; omega))))); have hG := hF; clear hF; clear hO; intro hO; refine own_call hO (fun hB => HSJ.out _ hB) ?_; clear hO; intro w1 hO; (try simp only [World.size_alloc1, World.size_drew, Nat.reduceAdd] at hO); (try simp only [upd, updI, List.map_cons, List.map_nil, eq_self, if_true, if_false, reduceIte, Nat.add_eq_left, Nat.left_eq_add, Nat.reduceEqDiff, List.set_cons_zero, List.set_cons_succ, hG] at hO); clear hG; have hF := hO; (try simp only [Own, Item.Holds, apartI, CellsAt, Nat.reduceAdd, Nat.zero_add, List.mem_cons, List.not_mem_nil, or_false, forall_eq_or_imp, forall_eq, ne_eq, false_imp_iff, implies_true, and_true] at hF))
              apply own_code hO
              (repeat (first | (with_reducible exact hO) | (with_reducible apply Own.alloc) | (with_reducible apply Own.drew) | ((with_reducible apply Own.set_at); (focus (show _ ≤ _; omega)))))
              have hG := hF; clear hF; clear hO; intro hO
              (try simp only [World.size_alloc1, World.size_drew, Nat.reduceAdd] at hO); (try simp only [upd, updI, List.map_cons, List.map_nil, eq_self, if_true, if_false, reduceIte, Nat.add_eq_left, Nat.left_eq_add, Nat.reduceEqDiff, List.set_cons_zero, List.set_cons_succ, hG] at hO); clear hG
              refine region_own (X := fun _ => True) [] (by kernel_rfl) (hO) (trivial) (by first | exact XStab.true | exact XStab.rd | exact XStab.rdIf) ?_
              clear hO
              refine Sim.sP (i := 0) (d := some 46) (h := ?_)
              refine Sim.sP (i := 1) (d := some 47) (h := ?_)
              refine Sim.sP (i := 2) (d := some 48) (h := ?_)
              refine Sim.sP (i := 3) (d := some 49) (h := ?_)
              refine Sim.sP (i := 4) (d := some 50) (h := ?_)
              refine Sim.sP (i := 5) (d := some 51) (h := ?_)
              refine Sim.sP (i := 6) (d := some 52) (h := ?_)
              refine Sim.sP (i := 7) (d := some 53) (h := ?_)
              refine Sim.sP (i := 8) (d := some 54) (h := ?_)
              refine Sim.sP (i := 9) (d := some 55) (h := ?_)
              refine Sim.sP (i := 10) (d := some 56) (h := ?_)
              refine Sim.sP (i := 11) (d := some 57) (h := ?_)
              refine Sim.sP (i := 12) (d := some 58) (h := ?_)
              refine Sim.sP (i := 13) (d := some 59) (h := ?_)
              refine Sim.sP (i := 14) (d := some 60) (h := ?_)
              refine Sim.done (by kernel_rfl) (fun w1 hO hX => ?_) _
              (try simp only [World.size_alloc1, World.size_drew, Nat.reduceAdd] at hO); (try simp only [upd, updI, List.map_cons, List.map_nil, eq_self, if_true, if_false, reduceIte, Nat.add_eq_left, Nat.left_eq_add, Nat.reduceEqDiff, List.set_cons_zero, List.set_cons_succ] at hO)
              have hF := hO; (try simp only [Own, Item.Holds, apartI, CellsAt, Nat.reduceAdd, Nat.zero_add, List.mem_cons, List.not_mem_nil, or_false, forall_eq_or_imp, forall_eq, ne_eq, false_imp_iff, implies_true, and_true] at hF)
              all_goals
                go_wp2
                go_roundw
                case rel => exact ⟨j + 1, by omega, by go_num, by rw [HU.out]; go_num, hO⟩
                case measure => simp [intOf]; omega
          · obtain ⟨l', hl'⟩ : ∃ l, ll[p]? = some l := ⟨_, List.getElem?_eq_getElem (by have := HNL.out; omega)⟩
            obtain ⟨A4, c4, hs4, d4⟩ := hcell p l' hl'
            have hll' := H64.out.2 l' (List.mem_of_getElem? hl')
            have hl6' := H64.out.1 l' (List.mem_of_getElem? hl')
            obtain ⟨n2, hn2⟩ : ∃ n, l'.length = n := ⟨_, rfl⟩
            rw [hn2] at hs4 d4 hll'
            obtain ⟨m, hm⟩ : ∃ m, mvZ l' l = m := ⟨_, rfl⟩
            have HMJ := hid (fun W (hW : Below wd.heap.size wd W) => HMT.out.is hn2 hn1 hll' hll hl6' hl6 hm _ _ W hW (hs4.below hW) (hs3.below hW))
            have HD2 := hid (fun W (hW : Below wd.heap.size wd W) => ((bcell hW).1 b (off + p) hbb).trans d4)
            have HU0 := len_next hl' hl hs hm
            rw [hq] at HU0
            have z3 : (0 : Int) < (p : Int) + 1 := by omega
            have z4 : decide ((0 : Int) < (p : Int) + 1) = true := decide_eq_true z3
            have z5 : (0 : Int) ≤ (p : Int) := by omega
            have z9 : (0 : Int) ≤ (p : Int) + 1 := by omega
            have z6 : (p : Int) < (n : Int) := by omega
            have z7 : p < n := by omega
            have z8 : (p : Int) + 1 < (n : Int) := by omega
            have wi : IntKind.i64.wrap ((p : Int) + 1 - 1) = (p : Int) := by rw [show (p : Int) + 1 - 1 = (p : Int) by omega]; exact IntWalk.i64_in _ (by omega)
            have wi2 : IntKind.i64.wrap (p : Int) = (p : Int) := IntWalk.i64_in _ (by omega)
            have wj : IntKind.i64.wrap ((p : Int) + 1 + 1) = (p : Int) + 1 + 1 := IntWalk.i64_in _ (by omega)
            rw [hq]
            by_cases hs0 : s = 0
            · by_cases hm0 : m = 0
              · subst hs0
                subst hm0
                have HU := hid (show (paF ll (p + 1 + 1)).length = q by rw [HU0]; simp)
                clear HU0 he hl hl' hcell hs3 hs4 d3 d4 hs hm hq hn1 hn2 hl6 hl6'
                go_wp2_with (go_at_call 34; apply own_at hO; (repeat (first | (with_reducible exact hO) | (with_reducible apply Own.alloc) | (with_reducible apply Own.drew) | ((with_reducible apply Own.set_at); (focus (show _ ≤ _; omega))))); have hG := hF; clear hF; clear hO; intro hO; refine own_call hO (fun hB => HSJ.out _ hB) ?_; clear hO; intro w1 hO; (try simp only [World.size_alloc1, World.size_drew, Nat.reduceAdd] at hO); (try simp only [upd, updI, List.map_cons, List.map_nil, eq_self, if_true, if_false, reduceIte, Nat.add_eq_left, Nat.left_eq_add, Nat.reduceEqDiff, List.set_cons_zero, List.set_cons_succ, hG] at hO); clear hG; have hF := hO; (try simp only [Own, Item.Holds, apartI, CellsAt, Nat.reduceAdd, Nat.zero_add, List.mem_cons, List.not_mem_nil, or_false, forall_eq_or_imp, forall_eq, ne_eq, false_imp_iff, implies_true, and_true] at hF))
                apply own_code hO
                (repeat (first | (with_reducible exact hO) | (with_reducible apply Own.alloc) | (with_reducible apply Own.drew) | ((with_reducible apply Own.set_at); (focus (show _ ≤ _; omega)))))
                have hG := hF; clear hF; clear hO; intro hO
                (try simp only [World.size_alloc1, World.size_drew, Nat.reduceAdd] at hO); (try simp only [upd, updI, List.map_cons, List.map_nil, eq_self, if_true, if_false, reduceIte, Nat.add_eq_left, Nat.left_eq_add, Nat.reduceEqDiff, List.set_cons_zero, List.set_cons_succ, hG] at hO); clear hG
                refine region_own (X := fun _ => True) [] (by kernel_rfl) (hO) (trivial) (by first | exact XStab.true | exact XStab.rd | exact XStab.rdIf) ?_
                clear hO
                refine Sim.sP (i := 0) (d := some 46) (h := ?_)
                refine Sim.sP (i := 1) (d := some 47) (h := ?_)
                refine Sim.sP (i := 2) (d := some 48) (h := ?_)
                refine Sim.sP (i := 3) (d := some 49) (h := ?_)
                refine Sim.sP (i := 4) (d := some 50) (h := ?_)
                refine Sim.sP (i := 5) (d := some 51) (h := ?_)
                refine Sim.sP (i := 6) (d := some 52) (h := ?_)
                refine Sim.sO (i := 7) (d := some 53) (v := ?_) (hy := ?_) (h := ?_)
                rotate_left
                · first | refine Or.inl ⟨by rfl, fun w hO => ?_⟩ | (refine Or.inr ⟨by rfl, ?_⟩; with_reducible rfl)
                  first | done | (have hF := hO; (try simp only [Own, Item.Holds, apartI, CellsAt, Nat.reduceAdd, Nat.zero_add, List.mem_cons, List.not_mem_nil, or_false, forall_eq_or_imp, forall_eq, ne_eq, false_imp_iff, implies_true, and_true] at hF); ((have e1 := HD1.out _ hO.base; have e2 := HD2.out _ hO.base)); refine Out.same ?_; go_simp; all_goals with_reducible rfl)
                refine Sim.sP (i := 8) (d := some 54) (h := ?_)
                refine Sim.sP (i := 9) (d := some 55) (h := ?_)
                refine Sim.sP (i := 10) (d := some 56) (h := ?_)
                refine Sim.sO (i := 11) (d := some 57) (v := ?_) (hy := ?_) (h := ?_)
                rotate_left
                · first | refine Or.inl ⟨by rfl, fun w hO => ?_⟩ | (refine Or.inr ⟨by rfl, ?_⟩; with_reducible rfl)
                  first | done | (have hF := hO; (try simp only [Own, Item.Holds, apartI, CellsAt, Nat.reduceAdd, Nat.zero_add, List.mem_cons, List.not_mem_nil, or_false, forall_eq_or_imp, forall_eq, ne_eq, false_imp_iff, implies_true, and_true] at hF); ((have e1 := HD1.out _ hO.base; have e2 := HD2.out _ hO.base)); refine Out.same ?_; go_simp; all_goals with_reducible rfl)
                refine Sim.sO (i := 12) (d := some 58) (v := ?_) (hy := ?_) (h := ?_)
                rotate_left
                · first | refine Or.inl ⟨by rfl, fun w hO => ?_⟩ | (refine Or.inr ⟨by rfl, ?_⟩; with_reducible rfl)
                  first | done | (refine Out.call (f := 35) (args := ?_) ?_ ?_; rotate_left; (focus (go_simp; all_goals with_reducible rfl)); exact HMJ.out _ hO.base)
                refine Sim.sP (i := 13) (d := some 59) (h := ?_)
                refine Sim.sP (i := 14) (d := some 60) (h := ?_)
                refine Sim.done (by kernel_rfl) (fun w1 hO hX => ?_) _
                (try simp only [World.size_alloc1, World.size_drew, Nat.reduceAdd] at hO); (try simp only [upd, updI, List.map_cons, List.map_nil, eq_self, if_true, if_false, reduceIte, Nat.add_eq_left, Nat.left_eq_add, Nat.reduceEqDiff, List.set_cons_zero, List.set_cons_succ] at hO)
                have hF := hO; (try simp only [Own, Item.Holds, apartI, CellsAt, Nat.reduceAdd, Nat.zero_add, List.mem_cons, List.not_mem_nil, or_false, forall_eq_or_imp, forall_eq, ne_eq, false_imp_iff, implies_true, and_true] at hF)
                all_goals
                  go_wp2
                  go_roundw
                  case rel => exact ⟨p + 1 + 1, by omega, by go_num, by rw [HU.out], hO⟩
                  case measure => simp [intOf]; omega
              · subst hs0
                have hm2 : (m == 0) = false := by simp [hm0]
                have hm3 : (m != 0) = true := by simp [hm0]
                have HU := hid (show (paF ll (p + 1 + 1)).length = q + 1 by rw [HU0]; simp [hm0])
                clear HU0 he hl hl' hcell hs3 hs4 d3 d4 hs hm hq hn1 hn2 hl6 hl6' hm0
                go_wp2_with (go_at_call 34; apply own_at hO; (repeat (first | (with_reducible exact hO) | (with_reducible apply Own.alloc) | (with_reducible apply Own.drew) | ((with_reducible apply Own.set_at); (focus (show _ ≤ _; omega))))); have hG := hF; clear hF; clear hO; intro hO; refine own_call hO (fun hB => HSJ.out _ hB) ?_; clear hO; intro w1 hO; (try simp only [World.size_alloc1, World.size_drew, Nat.reduceAdd] at hO); (try simp only [upd, updI, List.map_cons, List.map_nil, eq_self, if_true, if_false, reduceIte, Nat.add_eq_left, Nat.left_eq_add, Nat.reduceEqDiff, List.set_cons_zero, List.set_cons_succ, hG] at hO); clear hG; have hF := hO; (try simp only [Own, Item.Holds, apartI, CellsAt, Nat.reduceAdd, Nat.zero_add, List.mem_cons, List.not_mem_nil, or_false, forall_eq_or_imp, forall_eq, ne_eq, false_imp_iff, implies_true, and_true] at hF))
                apply own_code hO
                (repeat (first | (with_reducible exact hO) | (with_reducible apply Own.alloc) | (with_reducible apply Own.drew) | ((with_reducible apply Own.set_at); (focus (show _ ≤ _; omega)))))
                have hG := hF; clear hF; clear hO; intro hO
                (try simp only [World.size_alloc1, World.size_drew, Nat.reduceAdd] at hO); (try simp only [upd, updI, List.map_cons, List.map_nil, eq_self, if_true, if_false, reduceIte, Nat.add_eq_left, Nat.left_eq_add, Nat.reduceEqDiff, List.set_cons_zero, List.set_cons_succ, hG] at hO); clear hG
                refine region_own (X := fun _ => True) [] (by kernel_rfl) (hO) (trivial) (by first | exact XStab.true | exact XStab.rd | exact XStab.rdIf) ?_
                clear hO
                refine Sim.sP (i := 0) (d := some 46) (h := ?_)
                refine Sim.sP (i := 1) (d := some 47) (h := ?_)
                refine Sim.sP (i := 2) (d := some 48) (h := ?_)
                refine Sim.sP (i := 3) (d := some 49) (h := ?_)
                refine Sim.sP (i := 4) (d := some 50) (h := ?_)
                refine Sim.sP (i := 5) (d := some 51) (h := ?_)
                refine Sim.sP (i := 6) (d := some 52) (h := ?_)
                refine Sim.sO (i := 7) (d := some 53) (v := ?_) (hy := ?_) (h := ?_)
                rotate_left
                · first | refine Or.inl ⟨by rfl, fun w hO => ?_⟩ | (refine Or.inr ⟨by rfl, ?_⟩; with_reducible rfl)
                  first | done | (have hF := hO; (try simp only [Own, Item.Holds, apartI, CellsAt, Nat.reduceAdd, Nat.zero_add, List.mem_cons, List.not_mem_nil, or_false, forall_eq_or_imp, forall_eq, ne_eq, false_imp_iff, implies_true, and_true] at hF); ((have e1 := HD1.out _ hO.base; have e2 := HD2.out _ hO.base)); refine Out.same ?_; go_simp; all_goals with_reducible rfl)
                refine Sim.sP (i := 8) (d := some 54) (h := ?_)
                refine Sim.sP (i := 9) (d := some 55) (h := ?_)
                refine Sim.sP (i := 10) (d := some 56) (h := ?_)
                refine Sim.sO (i := 11) (d := some 57) (v := ?_) (hy := ?_) (h := ?_)
                rotate_left
                · first | refine Or.inl ⟨by rfl, fun w hO => ?_⟩ | (refine Or.inr ⟨by rfl, ?_⟩; with_reducible rfl)
                  first | done | (have hF := hO; (try simp only [Own, Item.Holds, apartI, CellsAt, Nat.reduceAdd, Nat.zero_add, List.mem_cons, List.not_mem_nil, or_false, forall_eq_or_imp, forall_eq, ne_eq, false_imp_iff, implies_true, and_true] at hF); ((have e1 := HD1.out _ hO.base; have e2 := HD2.out _ hO.base)); refine Out.same ?_; go_simp; all_goals with_reducible rfl)
                refine Sim.sO (i := 12) (d := some 58) (v := ?_) (hy := ?_) (h := ?_)
                rotate_left
                · first | refine Or.inl ⟨by rfl, fun w hO => ?_⟩ | (refine Or.inr ⟨by rfl, ?_⟩; with_reducible rfl)
                  first | done | (refine Out.call (f := 35) (args := ?_) ?_ ?_; rotate_left; (focus (go_simp; all_goals with_reducible rfl)); exact HMJ.out _ hO.base)
                refine Sim.sP (i := 13) (d := some 59) (h := ?_)
                refine Sim.sP (i := 14) (d := some 60) (h := ?_)
                refine Sim.done (by kernel_rfl) (fun w1 hO hX => ?_) _
                (try simp only [World.size_alloc1, World.size_drew, Nat.reduceAdd] at hO); (try simp only [upd, updI, List.map_cons, List.map_nil, eq_self, if_true, if_false, reduceIte, Nat.add_eq_left, Nat.left_eq_add, Nat.reduceEqDiff, List.set_cons_zero, List.set_cons_succ] at hO)
                have hF := hO; (try simp only [Own, Item.Holds, apartI, CellsAt, Nat.reduceAdd, Nat.zero_add, List.mem_cons, List.not_mem_nil, or_false, forall_eq_or_imp, forall_eq, ne_eq, false_imp_iff, implies_true, and_true] at hF)
                all_goals
                  go_wp2
                  go_roundw
                  case rel => exact ⟨p + 1 + 1, by omega, by go_num, by rw [HU.out]; go_num, hO⟩
                  case measure => simp [intOf]; omega
            · by_cases hm0 : m = 0
              · have hs2 : (s == 0) = false := by simp [hs0]
                have hs3 : (s != 0) = true := by simp [hs0]
                subst hm0
                have HU := hid (show (paF ll (p + 1 + 1)).length = q + 1 by rw [HU0]; simp [hs0])
                clear HU0 he hl hl' hcell hs3 hs4 d3 d4 hs hm hq hn1 hn2 hl6 hl6' hs0
                go_wp2_with (go_at_call 34; apply own_at hO; (repeat (first | (with_reducible exact hO) | (with_reducible apply Own.alloc) | (with_reducible apply Own.drew) | ((with_reducible apply Own.set_at); (focus (show _ ≤ _; omega))))); have hG := hF; clear hF; clear hO; intro hO; refine own_call hO (fun hB => HSJ.out _ hB) ?_; clear hO; intro w1 hO; (try simp only [World.size_alloc1, World.size_drew, Nat.reduceAdd] at hO); (try simp only [upd, updI, List.map_cons, List.map_nil, eq_self, if_true, if_false, reduceIte, Nat.add_eq_left, Nat.left_eq_add, Nat.reduceEqDiff, List.set_cons_zero, List.set_cons_succ, hG] at hO); clear hG; have hF := hO; (try simp only [Own, Item.Holds, apartI, CellsAt, Nat.reduceAdd, Nat.zero_add, List.mem_cons, List.not_mem_nil, or_false, forall_eq_or_imp, forall_eq, ne_eq, false_imp_iff, implies_true, and_true] at hF))
                apply own_code hO
                (repeat (first | (with_reducible exact hO) | (with_reducible apply Own.alloc) | (with_reducible apply Own.drew) | ((with_reducible apply Own.set_at); (focus (show _ ≤ _; omega)))))
                have hG := hF; clear hF; clear hO; intro hO
                (try simp only [World.size_alloc1, World.size_drew, Nat.reduceAdd] at hO); (try simp only [upd, updI, List.map_cons, List.map_nil, eq_self, if_true, if_false, reduceIte, Nat.add_eq_left, Nat.left_eq_add, Nat.reduceEqDiff, List.set_cons_zero, List.set_cons_succ, hG] at hO); clear hG
                refine region_own (X := fun _ => True) [] (by kernel_rfl) (hO) (trivial) (by first | exact XStab.true | exact XStab.rd | exact XStab.rdIf) ?_
                clear hO
                refine Sim.sP (i := 0) (d := some 46) (h := ?_)
                refine Sim.sP (i := 1) (d := some 47) (h := ?_)
                refine Sim.sP (i := 2) (d := some 48) (h := ?_)
                refine Sim.sP (i := 3) (d := some 49) (h := ?_)
                refine Sim.sP (i := 4) (d := some 50) (h := ?_)
                refine Sim.sP (i := 5) (d := some 51) (h := ?_)
                refine Sim.sP (i := 6) (d := some 52) (h := ?_)
                refine Sim.sO (i := 7) (d := some 53) (v := ?_) (hy := ?_) (h := ?_)
                rotate_left
                · first | refine Or.inl ⟨by rfl, fun w hO => ?_⟩ | (refine Or.inr ⟨by rfl, ?_⟩; with_reducible rfl)
                  first | done | (have hF := hO; (try simp only [Own, Item.Holds, apartI, CellsAt, Nat.reduceAdd, Nat.zero_add, List.mem_cons, List.not_mem_nil, or_false, forall_eq_or_imp, forall_eq, ne_eq, false_imp_iff, implies_true, and_true] at hF); ((have e1 := HD1.out _ hO.base; have e2 := HD2.out _ hO.base)); refine Out.same ?_; go_simp; all_goals with_reducible rfl)
                refine Sim.sP (i := 8) (d := some 54) (h := ?_)
                refine Sim.sP (i := 9) (d := some 55) (h := ?_)
                refine Sim.sP (i := 10) (d := some 56) (h := ?_)
                refine Sim.sO (i := 11) (d := some 57) (v := ?_) (hy := ?_) (h := ?_)
                rotate_left
                · first | refine Or.inl ⟨by rfl, fun w hO => ?_⟩ | (refine Or.inr ⟨by rfl, ?_⟩; with_reducible rfl)
                  first | done | (have hF := hO; (try simp only [Own, Item.Holds, apartI, CellsAt, Nat.reduceAdd, Nat.zero_add, List.mem_cons, List.not_mem_nil, or_false, forall_eq_or_imp, forall_eq, ne_eq, false_imp_iff, implies_true, and_true] at hF); ((have e1 := HD1.out _ hO.base; have e2 := HD2.out _ hO.base)); refine Out.same ?_; go_simp; all_goals with_reducible rfl)
                refine Sim.sO (i := 12) (d := some 58) (v := ?_) (hy := ?_) (h := ?_)
                rotate_left
                · first | refine Or.inl ⟨by rfl, fun w hO => ?_⟩ | (refine Or.inr ⟨by rfl, ?_⟩; with_reducible rfl)
                  first | done | (refine Out.call (f := 35) (args := ?_) ?_ ?_; rotate_left; (focus (go_simp; all_goals with_reducible rfl)); exact HMJ.out _ hO.base)
                refine Sim.sP (i := 13) (d := some 59) (h := ?_)
                refine Sim.sP (i := 14) (d := some 60) (h := ?_)
                refine Sim.done (by kernel_rfl) (fun w1 hO hX => ?_) _
                (try simp only [World.size_alloc1, World.size_drew, Nat.reduceAdd] at hO); (try simp only [upd, updI, List.map_cons, List.map_nil, eq_self, if_true, if_false, reduceIte, Nat.add_eq_left, Nat.left_eq_add, Nat.reduceEqDiff, List.set_cons_zero, List.set_cons_succ] at hO)
                have hF := hO; (try simp only [Own, Item.Holds, apartI, CellsAt, Nat.reduceAdd, Nat.zero_add, List.mem_cons, List.not_mem_nil, or_false, forall_eq_or_imp, forall_eq, ne_eq, false_imp_iff, implies_true, and_true] at hF)
                all_goals
                  go_wp2
                  go_roundw
                  case rel => exact ⟨p + 1 + 1, by omega, by go_num, by rw [HU.out]; go_num, hO⟩
                  case measure => simp [intOf]; omega
              · have hs2 : (s == 0) = false := by simp [hs0]
                have hs3 : (s != 0) = true := by simp [hs0]
                have hm2 : (m == 0) = false := by simp [hm0]
                have hm3 : (m != 0) = true := by simp [hm0]
                have HU := hid (show (paF ll (p + 1 + 1)).length = q + 1 + 1 by rw [HU0]; simp [hs0, hm0])
                clear HU0 he hl hl' hcell hs3 hs4 d3 d4 hs hm hq hn1 hn2 hl6 hl6' hs0 hm0
                go_wp2_with (go_at_call 34; apply own_at hO; (repeat (first | (with_reducible exact hO) | (with_reducible apply Own.alloc) | (with_reducible apply Own.drew) | ((with_reducible apply Own.set_at); (focus (show _ ≤ _; omega))))); have hG := hF; clear hF; clear hO; intro hO; refine own_call hO (fun hB => HSJ.out _ hB) ?_; clear hO; intro w1 hO; (try simp only [World.size_alloc1, World.size_drew, Nat.reduceAdd] at hO); (try simp only [upd, updI, List.map_cons, List.map_nil, eq_self, if_true, if_false, reduceIte, Nat.add_eq_left, Nat.left_eq_add, Nat.reduceEqDiff, List.set_cons_zero, List.set_cons_succ, hG] at hO); clear hG; have hF := hO; (try simp only [Own, Item.Holds, apartI, CellsAt, Nat.reduceAdd, Nat.zero_add, List.mem_cons, List.not_mem_nil, or_false, forall_eq_or_imp, forall_eq, ne_eq, false_imp_iff, implies_true, and_true] at hF))
                apply own_code hO
                (repeat (first | (with_reducible exact hO) | (with_reducible apply Own.alloc) | (with_reducible apply Own.drew) | ((with_reducible apply Own.set_at); (focus (show _ ≤ _; omega)))))
                have hG := hF; clear hF; clear hO; intro hO
                (try simp only [World.size_alloc1, World.size_drew, Nat.reduceAdd] at hO); (try simp only [upd, updI, List.map_cons, List.map_nil, eq_self, if_true, if_false, reduceIte, Nat.add_eq_left, Nat.left_eq_add, Nat.reduceEqDiff, List.set_cons_zero, List.set_cons_succ, hG] at hO); clear hG
                refine region_own (X := fun _ => True) [] (by kernel_rfl) (hO) (trivial) (by first | exact XStab.true | exact XStab.rd | exact XStab.rdIf) ?_
                clear hO
                refine Sim.sP (i := 0) (d := some 46) (h := ?_)
                refine Sim.sP (i := 1) (d := some 47) (h := ?_)
                refine Sim.sP (i := 2) (d := some 48) (h := ?_)
                refine Sim.sP (i := 3) (d := some 49) (h := ?_)
                refine Sim.sP (i := 4) (d := some 50) (h := ?_)
                refine Sim.sP (i := 5) (d := some 51) (h := ?_)
                refine Sim.sP (i := 6) (d := some 52) (h := ?_)
                refine Sim.sO (i := 7) (d := some 53) (v := ?_) (hy := ?_) (h := ?_)
                rotate_left
                · first | refine Or.inl ⟨by rfl, fun w hO => ?_⟩ | (refine Or.inr ⟨by rfl, ?_⟩; with_reducible rfl)
                  first | done | (have hF := hO; (try simp only [Own, Item.Holds, apartI, CellsAt, Nat.reduceAdd, Nat.zero_add, List.mem_cons, List.not_mem_nil, or_false, forall_eq_or_imp, forall_eq, ne_eq, false_imp_iff, implies_true, and_true] at hF); ((have e1 := HD1.out _ hO.base; have e2 := HD2.out _ hO.base)); refine Out.same ?_; go_simp; all_goals with_reducible rfl)
                refine Sim.sP (i := 8) (d := some 54) (h := ?_)
                refine Sim.sP (i := 9) (d := some 55) (h := ?_)
                refine Sim.sP (i := 10) (d := some 56) (h := ?_)
                refine Sim.sO (i := 11) (d := some 57) (v := ?_) (hy := ?_) (h := ?_)
                rotate_left
                · first | refine Or.inl ⟨by rfl, fun w hO => ?_⟩ | (refine Or.inr ⟨by rfl, ?_⟩; with_reducible rfl)
                  first | done | (have hF := hO; (try simp only [Own, Item.Holds, apartI, CellsAt, Nat.reduceAdd, Nat.zero_add, List.mem_cons, List.not_mem_nil, or_false, forall_eq_or_imp, forall_eq, ne_eq, false_imp_iff, implies_true, and_true] at hF); ((have e1 := HD1.out _ hO.base; have e2 := HD2.out _ hO.base)); refine Out.same ?_; go_simp; all_goals with_reducible rfl)
                refine Sim.sO (i := 12) (d := some 58) (v := ?_) (hy := ?_) (h := ?_)
                rotate_left
                · first | refine Or.inl ⟨by rfl, fun w hO => ?_⟩ | (refine Or.inr ⟨by rfl, ?_⟩; with_reducible rfl)
                  first | done | (refine Out.call (f := 35) (args := ?_) ?_ ?_; rotate_left; (focus (go_simp; all_goals with_reducible rfl)); exact HMJ.out _ hO.base)
                refine Sim.sP (i := 13) (d := some 59) (h := ?_)
                refine Sim.sP (i := 14) (d := some 60) (h := ?_)
                refine Sim.done (by kernel_rfl) (fun w1 hO hX => ?_) _
                (try simp only [World.size_alloc1, World.size_drew, Nat.reduceAdd] at hO); (try simp only [upd, updI, List.map_cons, List.map_nil, eq_self, if_true, if_false, reduceIte, Nat.add_eq_left, Nat.left_eq_add, Nat.reduceEqDiff, List.set_cons_zero, List.set_cons_succ] at hO)
                have hF := hO; (try simp only [Own, Item.Holds, apartI, CellsAt, Nat.reduceAdd, Nat.zero_add, List.mem_cons, List.not_mem_nil, or_false, forall_eq_or_imp, forall_eq, ne_eq, false_imp_iff, implies_true, and_true] at hF)
                all_goals
                  go_wp2
                  go_roundw
                  case rel => exact ⟨p + 1 + 1, by omega, by go_num, by rw [HU.out]; go_num, hO⟩
                  case measure => simp [intOf]; omega
    · have h8' : ¬ (n : Int) ≤ 8 := by omega
      have h8'' : (8 : Int) < (n : Int) := by omega
      have hpz : paZ ll = [] := by unfold paZ; rw [hnl, if_neg h8]
      obtain rfl : us = [] := by rw [← hus]; exact hpz
      obtain rfl : kk = 0 := by rw [← hkk]; rfl
      clear hus hkk hnl hpz h8
      go_wp2_with (first | ((go_at_call 32; apply own_at hO; (repeat (first | (with_reducible exact hO) | (with_reducible apply Own.alloc) | (with_reducible apply Own.drew) | ((with_reducible apply Own.set_at); (focus (show _ ≤ _; omega))))); have hG := hF; clear hF; clear hO; intro hO; refine own_call_row hO (fun hB => HI.out _ _ hB (HSLn.out _ hB)) ?_; clear hO; intro v w1 hO; (try simp only [World.size_alloc1, World.size_drew, Nat.reduceAdd] at hO); (try simp only [upd, updI, List.map_cons, List.map_nil, eq_self, if_true, if_false, reduceIte, Nat.add_eq_left, Nat.left_eq_add, Nat.reduceEqDiff, List.set_cons_zero, List.set_cons_succ, hG] at hO); clear hG; have hF := hO; (try simp only [Own, Item.Holds, apartI, CellsAt, Nat.reduceAdd, Nat.zero_add, List.mem_cons, List.not_mem_nil, or_false, forall_eq_or_imp, forall_eq, ne_eq, false_imp_iff, implies_true, and_true] at hF)); clear HI; obtain ⟨A1, c1, hv1⟩ := (SlAt.of_row hO.1.1).form; subst hv1; clear hF; have hF := hO; (try simp only [Own, Item.Holds, apartI, CellsAt, Nat.reduceAdd, Nat.zero_add, List.mem_cons, List.not_mem_nil, or_false, forall_eq_or_imp, forall_eq, ne_eq, false_imp_iff, implies_true, and_true] at hF)) | ((go_at_call 33; apply own_at hO; (repeat (first | (with_reducible exact hO) | (with_reducible apply Own.alloc) | (with_reducible apply Own.drew) | ((with_reducible apply Own.set_at); (focus (show _ ≤ _; omega))))); have hG := hF; clear hF; clear hO; intro hO; refine own_call_row hO (fun hB => HS.out _ _ hB (HSLn.out _ hB)) ?_; clear hO; intro v w1 hO; (try simp only [World.size_alloc1, World.size_drew, Nat.reduceAdd] at hO); (try simp only [upd, updI, List.map_cons, List.map_nil, eq_self, if_true, if_false, reduceIte, Nat.add_eq_left, Nat.left_eq_add, Nat.reduceEqDiff, List.set_cons_zero, List.set_cons_succ, hG] at hO); clear hG; have hF := hO; (try simp only [Own, Item.Holds, apartI, CellsAt, Nat.reduceAdd, Nat.zero_add, List.mem_cons, List.not_mem_nil, or_false, forall_eq_or_imp, forall_eq, ne_eq, false_imp_iff, implies_true, and_true] at hF)); obtain ⟨A2, c2, hv2⟩ := (SlAt.of_row hO.1.1).form; subst hv2; clear hF; have hF := hO; (try simp only [Own, Item.Holds, apartI, CellsAt, Nat.reduceAdd, Nat.zero_add, List.mem_cons, List.not_mem_nil, or_false, forall_eq_or_imp, forall_eq, ne_eq, false_imp_iff, implies_true, and_true] at hF)) | (go_at_call 15; apply own_at hO; (repeat (first | (with_reducible exact hO) | (with_reducible apply Own.alloc) | (with_reducible apply Own.drew) | ((with_reducible apply Own.set_at); (focus (show _ ≤ _; omega))))); have hG := hF; clear hF; clear hO; intro hO; refine own_call hO (fun hB => alive_any _ (HT.out.below hB)) ?_; clear hO; intro w1 hO; (try simp only [World.size_alloc1, World.size_drew, Nat.reduceAdd] at hO); (try simp only [upd, updI, List.map_cons, List.map_nil, eq_self, if_true, if_false, reduceIte, Nat.add_eq_left, Nat.left_eq_add, Nat.reduceEqDiff, List.set_cons_zero, List.set_cons_succ, hG] at hO); clear hG; have hF := hO; (try simp only [Own, Item.Holds, apartI, CellsAt, Nat.reduceAdd, Nat.zero_add, List.mem_cons, List.not_mem_nil, or_false, forall_eq_or_imp, forall_eq, ne_eq, false_imp_iff, implies_true, and_true] at hF)))
      go_ret
      exact ⟨rfl, btr HB0.out (Own.base (by first | exact hO | (repeat (first | (with_reducible exact hO) | (with_reducible apply Own.alloc) | (with_reducible apply Own.drew) | ((with_reducible apply Own.set_at); (focus (show _ ≤ _; omega)))))))⟩
  · have hl' : 1048576 < (n0 : Int) := by omega
    go_enter Tryd.func9, Tryd.ntmps9
    go_wp2
    go_ret
    exact ⟨rfl, Below.refl _ _⟩
end Go.Proofs.YtfdglkiehkilnaaDoor
