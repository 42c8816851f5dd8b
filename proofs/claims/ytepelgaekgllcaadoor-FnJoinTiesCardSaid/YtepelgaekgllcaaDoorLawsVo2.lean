/- The walks of the laws of chapter 5's promises: turned voices join alike. -/
import Derived.Test.YtepelgaekgllcaaDoorLawsVo
import Derived.Test.YtepelgaekgllcaaDoorWalks5J
namespace Go.Proofs.YtepelgaekgllcaaDoor
set_option linter.unusedSimpArgs false
set_option linter.unusedVariables false
open Go.RowKit

theorem jtL_yes {v : List Nt} (h : voB v = true) : jtL v = joL v := by unfold jtL; rw [if_pos h]
theorem jtL_no {v : List Nt} (h : voB v = false) : jtL v = [] := by unfold jtL; rw [h]; rfl
theorem vt_jo {v : List Nt} (h : voB v = true) : vtZ (joL v) = vtZ v := by
  unfold vtZ
  rw [h, joL_vo h]
  exact joL_sum v
theorem any_up {b : List Nt} {j : Nat} {x : Nt} (hx : b[j]? = some x) : (b.take (j + 1)).any (·.y) = ((b.take j).any (·.y) || x.y) := by
  rw [List.take_add_one, hx]; simp
/-- What both joined voices have: as many ticks, and as many notes if no tie is kept. -/
theorem tu_both (v : List Nt) : vtZ (jtL (ttL v)) = vtZ (jtL v) ∧ ((jtL v).any (·.y) = false → (jtL (ttL v)).length = (jtL v).length) ∧ (ttL v).length ≤ v.length ∧ (jtL v).length ≤ v.length ∧ (jtL (ttL v)).length ≤ v.length := by
  cases hv : voB v
  · rw [ttL_no hv, jtL_no hv, jtL_yes (v := []) (by decide)]
    refine ⟨rfl, fun _ => rfl, by simp, by simp, by simp [joL]⟩
  · rw [ttL_yes hv, jtL_yes hv, jtL_yes (tuL_vo hv)]
    have h1 := joL_len v
    have h2 := joL_len (tuL v)
    rw [tuL_len] at h2
    refine ⟨by rw [vt_jo (tuL_vo hv), vt_jo hv, vt_tu hv], fun h => tu_jo (voB_iff.1 hv).1 fun z hz => ?_, by rw [tuL_len]; omega, h1, h2⟩
    cases hy : z.y with
    | false => rfl
    | true =>
      have : (joL v).any (·.y) = true := List.any_eq_true.2 ⟨z, hz, hy⟩
      rw [h] at this; cases this

set_option maxHeartbeats 8000000 in
theorem fnTurnJoin_of (v : Value) (n : Nat) (w : World) (hn : n ≤ maxLen) (h : BytesB w w.heap.size v n) (ht : TabH w)
    (hJ : CRow 26 jtL w) (hT : CInt 20 vtZ w) (hI : CRow 34 ttL w) :
    Calls Tryd.prog 10 #[v] w fun e w' => e = .returned (.bool true) ∧ Below w.heap.size w w' := by
  obtain ⟨a0, c0, rfl⟩ := h.form
  have hn' : (n : Int) ≤ 9223372036854775807 := by unfold maxLen at hn; omega
  by_cases hl : n ≤ 1048576
  · have hl' : (n : Int) ≤ 1048576 := by omega
    have HA := hid (And.intro hJ (And.intro hT hI))
    clear hJ hT hI
    go_enter Tryd.func10, Tryd.ntmps10
    go_wp2_with (go_at_call 33; refine (DrawTurnVoice_any _ n _ hn h).mono ?_; rintro e w1 ⟨u, vs, hv, hvl, rfl, hO⟩; have hF := hO; (try simp only [Own, Item.Holds, apartI, CellsAt, Nat.reduceAdd, Nat.zero_add, List.mem_cons, List.not_mem_nil, or_false, forall_eq_or_imp, forall_eq, ne_eq, false_imp_iff, implies_true, and_true] at hF); clear hn h hv)
    obtain ⟨q1, q2, q3, q4, q5⟩ := tu_both vs
    have hv9 : vs.length ≤ 1048576 := by omega
    have hx9 : (ttL vs).length ≤ 1048576 := by omega
    have ha9 : (jtL (ttL vs)).length ≤ 1048576 := by omega
    have hb9 : (jtL vs).length ≤ 1048576 := by omega
    have HS := hid ((tvS_C w).is hv9 rfl)
    have HI := hid (HA.out.2.2.is hv9 rfl)
    have HJ1 := hid (HA.out.1.is hx9 rfl)
    have HJ2 := hid (HA.out.1.is hv9 rfl)
    have HT1 := hid (HA.out.2.1.is ha9 q1)
    have HT2 := hid (HA.out.2.1.is hb9 rfl)
    obtain ⟨x, hx⟩ : ∃ x, ttL vs = x := ⟨_, rfl⟩
    rw [hx] at HS HI HJ1 HT1 q2 q5 ha9
    obtain ⟨a, hae⟩ : ∃ a, jtL x = a := ⟨_, rfl⟩
    obtain ⟨b, hbe⟩ : ∃ b, jtL vs = b := ⟨_, rfl⟩
    rw [hae] at HJ1 HT1 q2 q5
    rw [hbe] at HJ2 HT1 HT2 q2 q4
    have HQ := hid q2
    clear hx hae hbe q1 q2 q3 HA hx9 ha9 hb9
    go_wp2_with (first | (go_at_call 34; apply own_at hO; (repeat (first | (with_reducible exact hO) | (with_reducible apply Own.alloc) | (with_reducible apply Own.drew) | ((with_reducible apply Own.set_at); (focus (show _ ≤ _; omega))))); have hG := hF; clear hF; clear hO; intro hO; refine own_call_row hO (fun hB => HI.out _ _ hB (SlAt.of_row hO.1.1)) ?_; clear hO; intro v w1 hO; (try simp only [World.size_alloc1, World.size_drew, Nat.reduceAdd] at hO); (try simp only [upd, updI, List.map_cons, List.map_nil, eq_self, if_true, if_false, reduceIte, Nat.add_eq_left, Nat.left_eq_add, Nat.reduceEqDiff, List.set_cons_zero, List.set_cons_succ, hG] at hO); clear hG; have hF := hO; (try simp only [Own, Item.Holds, apartI, CellsAt, Nat.reduceAdd, Nat.zero_add, List.mem_cons, List.not_mem_nil, or_false, forall_eq_or_imp, forall_eq, ne_eq, false_imp_iff, implies_true, and_true] at hF)) | (go_at_call 35; apply own_at hO; (repeat (first | (with_reducible exact hO) | (with_reducible apply Own.alloc) | (with_reducible apply Own.drew) | ((with_reducible apply Own.set_at); (focus (show _ ≤ _; omega))))); have hG := hF; clear hF; clear hO; intro hO; refine own_call_row hO (fun hB => HS.out _ _ hB (SlAt.of_row hO.2.1.1)) ?_; clear hO; intro v w1 hO; (try simp only [World.size_alloc1, World.size_drew, Nat.reduceAdd] at hO); (try simp only [upd, updI, List.map_cons, List.map_nil, eq_self, if_true, if_false, reduceIte, Nat.add_eq_left, Nat.left_eq_add, Nat.reduceEqDiff, List.set_cons_zero, List.set_cons_succ, hG] at hO); clear hG; have hF := hO; (try simp only [Own, Item.Holds, apartI, CellsAt, Nat.reduceAdd, Nat.zero_add, List.mem_cons, List.not_mem_nil, or_false, forall_eq_or_imp, forall_eq, ne_eq, false_imp_iff, implies_true, and_true] at hF)) | (go_at_call 27; apply own_at hO; (repeat (first | (with_reducible exact hO) | (with_reducible apply Own.alloc) | (with_reducible apply Own.drew) | ((with_reducible apply Own.set_at); (focus (show _ ≤ _; omega))))); have hG := hF; clear hF; clear hO; intro hO; refine own_callO hO (fun hW => sameVoice_same _ _ x _ (SlAt.of_row hW.2.1.1) (SlAt.of_row hW.1.1)) ?_; clear hO; intro w1 hO; (try simp only [World.size_alloc1, World.size_drew, Nat.reduceAdd] at hO); (try simp only [upd, updI, List.map_cons, List.map_nil, eq_self, if_true, if_false, reduceIte, Nat.add_eq_left, Nat.left_eq_add, Nat.reduceEqDiff, List.set_cons_zero, List.set_cons_succ, hG] at hO); clear hG; have hF := hO; (try simp only [Own, Item.Holds, apartI, CellsAt, Nat.reduceAdd, Nat.zero_add, List.mem_cons, List.not_mem_nil, or_false, forall_eq_or_imp, forall_eq, ne_eq, false_imp_iff, implies_true, and_true] at hF)) | ((go_at_call 26; apply own_at hO; (repeat (first | (with_reducible exact hO) | (with_reducible apply Own.alloc) | (with_reducible apply Own.drew) | ((with_reducible apply Own.set_at); (focus (show _ ≤ _; omega))))); have hG := hF; clear hF; clear hO; intro hO; refine own_call_row hO (fun hB => HJ1.out _ _ hB (SlAt.of_row hO.2.1.1)) ?_; clear hO; intro v w1 hO; (try simp only [World.size_alloc1, World.size_drew, Nat.reduceAdd] at hO); (try simp only [upd, updI, List.map_cons, List.map_nil, eq_self, if_true, if_false, reduceIte, Nat.add_eq_left, Nat.left_eq_add, Nat.reduceEqDiff, List.set_cons_zero, List.set_cons_succ, hG] at hO); clear hG; have hF := hO; (try simp only [Own, Item.Holds, apartI, CellsAt, Nat.reduceAdd, Nat.zero_add, List.mem_cons, List.not_mem_nil, or_false, forall_eq_or_imp, forall_eq, ne_eq, false_imp_iff, implies_true, and_true] at hF)); obtain ⟨ua, hua⟩ : ∃ ua, ua = v := ⟨_, rfl⟩; subst hua) | (go_at_call 26; apply own_at hO; (repeat (first | (with_reducible exact hO) | (with_reducible apply Own.alloc) | (with_reducible apply Own.drew) | ((with_reducible apply Own.set_at); (focus (show _ ≤ _; omega))))); have hG := hF; clear hF; clear hO; intro hO; refine own_call_row hO (fun hB => HJ2.out _ _ hB (SlAt.of_row hO.2.2.2.1.1)) ?_; clear hO; intro v w1 hO; (try simp only [World.size_alloc1, World.size_drew, Nat.reduceAdd] at hO); (try simp only [upd, updI, List.map_cons, List.map_nil, eq_self, if_true, if_false, reduceIte, Nat.add_eq_left, Nat.left_eq_add, Nat.reduceEqDiff, List.set_cons_zero, List.set_cons_succ, hG] at hO); clear hG; have hF := hO; (try simp only [Own, Item.Holds, apartI, CellsAt, Nat.reduceAdd, Nat.zero_add, List.mem_cons, List.not_mem_nil, or_false, forall_eq_or_imp, forall_eq, ne_eq, false_imp_iff, implies_true, and_true] at hF)))
    obtain ⟨A, cb, hAv, nb, hA⟩ := (SlAt.of_row hO.1.1).open
    subst hAv
    have hb9 : (b.length : Int) ≤ 61 := by omega
    have ha9 : (a.length : Int) ≤ 61 := by omega
    go_loopw [7, 8] (fun s t wr => ∃ j : Nat, j ≤ b.length ∧ t = .int .i64 j ∧ s = .bool ((b.take j).any (·.y)) ∧ Own w.heap.size (Below w.heap.size w) wr [.row 26 6 (.slice A b.length cb) b.length (vcC b), .row 26 6 ua a.length (vcC a)]) (fun _ t _ => b.length - (intOf t).toNat)
    case atStart => exact ⟨0, by omega, rfl, rfl, Own.sub (.cons_cons _ (.cons_cons _ (.cons _ (.cons _ (.cons _ .slnil))))) hO⟩
    case round =>
      clear hO hF
      obtain ⟨j, hj, rfl, rfl, hO⟩ := hrel
      have hF := True.intro
      by_cases he : j = b.length
      · subst he
        rw [List.take_length]
        obtain ⟨A5, c5, hv5⟩ := (SlAt.of_row hO.2.1.1).form
        subst hv5
        cases hy : b.any (·.y)
        · have e1 : (a.length : Int) = b.length := by rw [HQ.out hy]
          go_wp2_with (first | (go_at_call 20; apply own_at hO; (repeat (first | (with_reducible exact hO) | (with_reducible apply Own.alloc) | (with_reducible apply Own.drew) | ((with_reducible apply Own.set_at); (focus (show _ ≤ _; omega))))); have hG := hF; clear hF; clear hO; intro hO; refine own_callO hO (fun hW => HT1.out _ _ hW.base (SlAt.of_row hW.2.1.1)) ?_; clear hO; intro w1 hO; (try simp only [World.size_alloc1, World.size_drew, Nat.reduceAdd] at hO); (try simp only [upd, updI, List.map_cons, List.map_nil, eq_self, if_true, if_false, reduceIte, Nat.add_eq_left, Nat.left_eq_add, Nat.reduceEqDiff, List.set_cons_zero, List.set_cons_succ, hG] at hO); clear hG; have hF := hO; (try simp only [Own, Item.Holds, apartI, CellsAt, Nat.reduceAdd, Nat.zero_add, List.mem_cons, List.not_mem_nil, or_false, forall_eq_or_imp, forall_eq, ne_eq, false_imp_iff, implies_true, and_true] at hF)) | (go_at_call 20; apply own_at hO; (repeat (first | (with_reducible exact hO) | (with_reducible apply Own.alloc) | (with_reducible apply Own.drew) | ((with_reducible apply Own.set_at); (focus (show _ ≤ _; omega))))); have hG := hF; clear hF; clear hO; intro hO; refine own_callO hO (fun hW => HT2.out _ _ hW.base (SlAt.of_row hW.1.1)) ?_; clear hO; intro w1 hO; (try simp only [World.size_alloc1, World.size_drew, Nat.reduceAdd] at hO); (try simp only [upd, updI, List.map_cons, List.map_nil, eq_self, if_true, if_false, reduceIte, Nat.add_eq_left, Nat.left_eq_add, Nat.reduceEqDiff, List.set_cons_zero, List.set_cons_succ, hG] at hO); clear hG; have hF := hO; (try simp only [Own, Item.Holds, apartI, CellsAt, Nat.reduceAdd, Nat.zero_add, List.mem_cons, List.not_mem_nil, or_false, forall_eq_or_imp, forall_eq, ne_eq, false_imp_iff, implies_true, and_true] at hF)) | (go_at_call 15; apply own_at hO; (repeat (first | (with_reducible exact hO) | (with_reducible apply Own.alloc) | (with_reducible apply Own.drew) | ((with_reducible apply Own.set_at); (focus (show _ ≤ _; omega))))); have hG := hF; clear hF; clear hO; intro hO; refine own_call hO (fun hB => alive_any _ (ht.below hB)) ?_; clear hO; intro w1 hO; (try simp only [World.size_alloc1, World.size_drew, Nat.reduceAdd] at hO); (try simp only [upd, updI, List.map_cons, List.map_nil, eq_self, if_true, if_false, reduceIte, Nat.add_eq_left, Nat.left_eq_add, Nat.reduceEqDiff, List.set_cons_zero, List.set_cons_succ, hG] at hO); clear hG; have hF := hO; (try simp only [Own, Item.Holds, apartI, CellsAt, Nat.reduceAdd, Nat.zero_add, List.mem_cons, List.not_mem_nil, or_false, forall_eq_or_imp, forall_eq, ne_eq, false_imp_iff, implies_true, and_true] at hF)))
          go_ret
          exact ⟨rfl, Own.base (by (repeat (first | (with_reducible exact hO) | (with_reducible apply Own.alloc) | (with_reducible apply Own.drew) | ((with_reducible apply Own.set_at); (focus (show _ ≤ _; omega))))))⟩
        · go_wp2_with (first | (go_at_call 20; apply own_at hO; (repeat (first | (with_reducible exact hO) | (with_reducible apply Own.alloc) | (with_reducible apply Own.drew) | ((with_reducible apply Own.set_at); (focus (show _ ≤ _; omega))))); have hG := hF; clear hF; clear hO; intro hO; refine own_callO hO (fun hW => HT1.out _ _ hW.base (SlAt.of_row hW.2.1.1)) ?_; clear hO; intro w1 hO; (try simp only [World.size_alloc1, World.size_drew, Nat.reduceAdd] at hO); (try simp only [upd, updI, List.map_cons, List.map_nil, eq_self, if_true, if_false, reduceIte, Nat.add_eq_left, Nat.left_eq_add, Nat.reduceEqDiff, List.set_cons_zero, List.set_cons_succ, hG] at hO); clear hG; have hF := hO; (try simp only [Own, Item.Holds, apartI, CellsAt, Nat.reduceAdd, Nat.zero_add, List.mem_cons, List.not_mem_nil, or_false, forall_eq_or_imp, forall_eq, ne_eq, false_imp_iff, implies_true, and_true] at hF)) | (go_at_call 20; apply own_at hO; (repeat (first | (with_reducible exact hO) | (with_reducible apply Own.alloc) | (with_reducible apply Own.drew) | ((with_reducible apply Own.set_at); (focus (show _ ≤ _; omega))))); have hG := hF; clear hF; clear hO; intro hO; refine own_callO hO (fun hW => HT2.out _ _ hW.base (SlAt.of_row hW.1.1)) ?_; clear hO; intro w1 hO; (try simp only [World.size_alloc1, World.size_drew, Nat.reduceAdd] at hO); (try simp only [upd, updI, List.map_cons, List.map_nil, eq_self, if_true, if_false, reduceIte, Nat.add_eq_left, Nat.left_eq_add, Nat.reduceEqDiff, List.set_cons_zero, List.set_cons_succ, hG] at hO); clear hG; have hF := hO; (try simp only [Own, Item.Holds, apartI, CellsAt, Nat.reduceAdd, Nat.zero_add, List.mem_cons, List.not_mem_nil, or_false, forall_eq_or_imp, forall_eq, ne_eq, false_imp_iff, implies_true, and_true] at hF)) | (go_at_call 15; apply own_at hO; (repeat (first | (with_reducible exact hO) | (with_reducible apply Own.alloc) | (with_reducible apply Own.drew) | ((with_reducible apply Own.set_at); (focus (show _ ≤ _; omega))))); have hG := hF; clear hF; clear hO; intro hO; refine own_call hO (fun hB => alive_any _ (ht.below hB)) ?_; clear hO; intro w1 hO; (try simp only [World.size_alloc1, World.size_drew, Nat.reduceAdd] at hO); (try simp only [upd, updI, List.map_cons, List.map_nil, eq_self, if_true, if_false, reduceIte, Nat.add_eq_left, Nat.left_eq_add, Nat.reduceEqDiff, List.set_cons_zero, List.set_cons_succ, hG] at hO); clear hG; have hF := hO; (try simp only [Own, Item.Holds, apartI, CellsAt, Nat.reduceAdd, Nat.zero_add, List.mem_cons, List.not_mem_nil, or_false, forall_eq_or_imp, forall_eq, ne_eq, false_imp_iff, implies_true, and_true] at hF)))
          go_ret
          exact ⟨rfl, Own.base (by (repeat (first | (with_reducible exact hO) | (with_reducible apply Own.alloc) | (with_reducible apply Own.drew) | ((with_reducible apply Own.set_at); (focus (show _ ≤ _; omega))))))⟩
      · have hlt : j < b.length := by omega
        have hlt2 : (j : Int) < b.length := by omega
        obtain ⟨bk, off, rfl, hc1, hc2, hbk⟩ := hA (by omega)
        obtain ⟨z, hz⟩ : ∃ z, b[j]? = some z := ⟨_, List.getElem?_eq_getElem hlt⟩
        obtain ⟨d0, d1, d2, d3, d4, d5⟩ := noteAt (SlAt.of_row hO.1.1) hz
        have HU := hid (any_up hz)
        obtain ⟨y, hy⟩ : ∃ y, (b.take j).any (·.y) = y := ⟨_, rfl⟩
        rw [hy] at HU
        rw [hy]
        clear he hz hy
        cases y <;> cases hzy : z.y
        all_goals
          have HZ := hid hzy
          rw [hzy] at d5
          clear hzy
          go_wp2
          go_roundw
          case rel => exact ⟨j + 1, by omega, by go_num, by rw [HU.out, HZ.out]; rfl, hO⟩
          case measure => simp [intOf]; omega
  · have hl' : 1048576 < (n : Int) := by omega
    go_enter Tryd.func10, Tryd.ntmps10
    go_wp2
    go_ret
    exact ⟨rfl, Below.refl _ _⟩
end Go.Proofs.YtepelgaekgllcaaDoor
