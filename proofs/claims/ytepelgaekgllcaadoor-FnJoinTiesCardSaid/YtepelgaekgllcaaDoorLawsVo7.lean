/- The walk of the law of chapter 5's promise on joined ties. -/
import Derived.Test.YtepelgaekgllcaaDoorLawsVo2
import Derived.Test.YtepelgaekgllcaaDoorLawsVo4
namespace Go.Proofs.YtepelgaekgllcaaDoor
set_option linter.unusedSimpArgs false
set_option linter.unusedVariables false
open Go.RowKit

set_option maxRecDepth 20000 in
set_option maxHeartbeats 8000000 in
theorem fnJoinTies_of (v : Value) (n : Nat) (w : World) (hn : n ≤ maxLen) (h : BytesB w w.heap.size v n) (ht : TabH w)
    (hJ : CRow 26 jtL w) (hV : CBool 17 voB w) (hT : CInt 20 vtZ w) (hN : CNote 23 w) :
    Calls Tryd.prog 7 #[v] w fun e w' => e = .returned (.bool true) ∧ Below w.heap.size w w' := by
  obtain ⟨a0, c0, rfl⟩ := h.form
  have hn' : (n : Int) ≤ 9223372036854775807 := by unfold maxLen at hn; omega
  by_cases hl : n ≤ 1048576
  · have hl' : (n : Int) ≤ 1048576 := by omega
    have HA := hid (And.intro hJ (And.intro hV (And.intro hT hN)))
    clear hJ hV hT hN
    go_enter Tryd.func7, Tryd.ntmps7
    go_wp2_with (go_at_call 25; refine (DrawJoinTies_any _ n _ hn h).mono ?_; rintro e w1 ⟨u, vs, hv, hvl, rfl, hO⟩; have hF := hO; (try simp only [Own, Item.Holds, apartI, CellsAt, Nat.reduceAdd, Nat.zero_add, List.mem_cons, List.not_mem_nil, or_false, forall_eq_or_imp, forall_eq, ne_eq, false_imp_iff, implies_true, and_true] at hF); clear hn h hv)
    have hv9 : vs.length ≤ 1048576 := by omega
    cases ho : voB vs
    · have HI := hid (HA.out.1.is hv9 (jtL_no ho))
      have HS := hid ((jtS_C w).is hv9 (jtL_no ho))
      have HV := hid ((voS_C w).is hv9 ho)
      simp only [List.length_nil] at HS HI
      clear ho HA hv9
      go_wp2_with (first | ((go_at_call 26; apply own_at hO; (repeat (first | (with_reducible exact hO) | (with_reducible apply Own.alloc) | (with_reducible apply Own.drew) | ((with_reducible apply Own.set_at); (focus (show _ ≤ _; omega))))); have hG := hF; clear hF; clear hO; intro hO; refine own_call_row hO (fun hB => HI.out _ _ hB (SlAt.of_row hO.1.1)) ?_; clear hO; intro v w1 hO; (try simp only [World.size_alloc1, World.size_drew, Nat.reduceAdd] at hO); (try simp only [upd, updI, List.map_cons, List.map_nil, eq_self, if_true, if_false, reduceIte, Nat.add_eq_left, Nat.left_eq_add, Nat.reduceEqDiff, List.set_cons_zero, List.set_cons_succ, hG] at hO); clear hG; have hF := hO; (try simp only [Own, Item.Holds, apartI, CellsAt, Nat.reduceAdd, Nat.zero_add, List.mem_cons, List.not_mem_nil, or_false, forall_eq_or_imp, forall_eq, ne_eq, false_imp_iff, implies_true, and_true] at hF)); obtain ⟨A1, cp1, hv1⟩ := (SlAt.of_row hO.1.1).form; subst hv1) | (go_at_call 28; apply own_at hO; (repeat (first | (with_reducible exact hO) | (with_reducible apply Own.alloc) | (with_reducible apply Own.drew) | ((with_reducible apply Own.set_at); (focus (show _ ≤ _; omega))))); have hG := hF; clear hF; clear hO; intro hO; refine own_call_row hO (fun hB => HS.out _ _ hB (SlAt.of_row hO.2.1.1)) ?_; clear hO; intro v w1 hO; (try simp only [World.size_alloc1, World.size_drew, Nat.reduceAdd] at hO); (try simp only [upd, updI, List.map_cons, List.map_nil, eq_self, if_true, if_false, reduceIte, Nat.add_eq_left, Nat.left_eq_add, Nat.reduceEqDiff, List.set_cons_zero, List.set_cons_succ, hG] at hO); clear hG; have hF := hO; (try simp only [Own, Item.Holds, apartI, CellsAt, Nat.reduceAdd, Nat.zero_add, List.mem_cons, List.not_mem_nil, or_false, forall_eq_or_imp, forall_eq, ne_eq, false_imp_iff, implies_true, and_true] at hF)) | (go_at_call 27; apply own_at hO; (repeat (first | (with_reducible exact hO) | (with_reducible apply Own.alloc) | (with_reducible apply Own.drew) | ((with_reducible apply Own.set_at); (focus (show _ ≤ _; omega))))); have hG := hF; clear hF; clear hO; intro hO; refine own_callO hO (fun hW => sameVoice_same _ _ [] _ (SlAt.of_row hW.2.1.1) (SlAt.of_row hW.1.1)) ?_; clear hO; intro w1 hO; (try simp only [World.size_alloc1, World.size_drew, Nat.reduceAdd] at hO); (try simp only [upd, updI, List.map_cons, List.map_nil, eq_self, if_true, if_false, reduceIte, Nat.add_eq_left, Nat.left_eq_add, Nat.reduceEqDiff, List.set_cons_zero, List.set_cons_succ, hG] at hO); clear hG; have hF := hO; (try simp only [Own, Item.Holds, apartI, CellsAt, Nat.reduceAdd, Nat.zero_add, List.mem_cons, List.not_mem_nil, or_false, forall_eq_or_imp, forall_eq, ne_eq, false_imp_iff, implies_true, and_true] at hF)) | (go_at_call 18; apply own_at hO; (repeat (first | (with_reducible exact hO) | (with_reducible apply Own.alloc) | (with_reducible apply Own.drew) | ((with_reducible apply Own.set_at); (focus (show _ ≤ _; omega))))); have hG := hF; clear hF; clear hO; intro hO; refine own_callO hO (fun hW => HV.out _ _ hW.base (SlAt.of_row hW.2.2.1.1)) ?_; clear hO; intro w1 hO; (try simp only [World.size_alloc1, World.size_drew, Nat.reduceAdd] at hO); (try simp only [upd, updI, List.map_cons, List.map_nil, eq_self, if_true, if_false, reduceIte, Nat.add_eq_left, Nat.left_eq_add, Nat.reduceEqDiff, List.set_cons_zero, List.set_cons_succ, hG] at hO); clear hG; have hF := hO; (try simp only [Own, Item.Holds, apartI, CellsAt, Nat.reduceAdd, Nat.zero_add, List.mem_cons, List.not_mem_nil, or_false, forall_eq_or_imp, forall_eq, ne_eq, false_imp_iff, implies_true, and_true] at hF)) | (go_at_call 15; apply own_at hO; (repeat (first | (with_reducible exact hO) | (with_reducible apply Own.alloc) | (with_reducible apply Own.drew) | ((with_reducible apply Own.set_at); (focus (show _ ≤ _; omega))))); have hG := hF; clear hF; clear hO; intro hO; refine own_call hO (fun hB => alive_any _ (ht.below hB)) ?_; clear hO; intro w1 hO; (try simp only [World.size_alloc1, World.size_drew, Nat.reduceAdd] at hO); (try simp only [upd, updI, List.map_cons, List.map_nil, eq_self, if_true, if_false, reduceIte, Nat.add_eq_left, Nat.left_eq_add, Nat.reduceEqDiff, List.set_cons_zero, List.set_cons_succ, hG] at hO); clear hG; have hF := hO; (try simp only [Own, Item.Holds, apartI, CellsAt, Nat.reduceAdd, Nat.zero_add, List.mem_cons, List.not_mem_nil, or_false, forall_eq_or_imp, forall_eq, ne_eq, false_imp_iff, implies_true, and_true] at hF)))
      go_ret
      exact ⟨rfl, Own.base (by (repeat (first | (with_reducible exact hO) | (with_reducible apply Own.alloc) | (with_reducible apply Own.drew) | ((with_reducible apply Own.set_at); (focus (show _ ≤ _; omega))))))⟩
    · have hjl := joL_len vs
      have hj9 : (joL vs).length ≤ 1048576 := by omega
      have HI := hid (HA.out.1.is hv9 (jtL_yes ho))
      have HS := hid ((jtS_C w).is hv9 (jtL_yes ho))
      have HI2 := hid (HA.out.1.is hj9 ((jtL_yes (joL_vo ho)).trans (joL_again (voB_iff.1 ho).1)))
      have HV := hid ((voS_C w).is hv9 ho)
      have HV2 := hid (HA.out.2.1.is hj9 (joL_vo ho))
      obtain ⟨z, hz⟩ : ∃ z, vtZ vs = z := ⟨_, rfl⟩
      have hzs : sumT vs = z := by rw [← hz]; unfold vtZ; rw [ho]; rfl
      have sp := sumT_pos (voB_iff.1 ho).1
      have z0 : 0 ≤ z := by omega
      have z1 : z ≤ 50000 := by omega
      have HT := hid (HA.out.2.2.1.is hv9 hz)
      have HT2 := hid (HA.out.2.2.1.is hj9 ((vt_jo ho).trans hz))
      have HN := hid HA.out.2.2.2
      have SAME := hid (fun (t : Int) (t0 : 0 ≤ t) (t1 : t < z) => jo_same ho t0 (hzs ▸ t1))
      obtain ⟨x, hx⟩ : ∃ x, joL vs = x := ⟨_, rfl⟩
      rw [hx] at HI HS HI2 HV2 HT2 hjl hj9
      have HX := hid hx
      have HVL := hid (And.intro hv9 hj9)
      clear ho HA hv9 hj9 hz hzs sp hx
      go_wp2_with (first | ((go_at_call 26; apply own_at hO; (repeat (first | (with_reducible exact hO) | (with_reducible apply Own.alloc) | (with_reducible apply Own.drew) | ((with_reducible apply Own.set_at); (focus (show _ ≤ _; omega))))); have hG := hF; clear hF; clear hO; intro hO; refine own_call_row hO (fun hB => HI.out _ _ hB (SlAt.of_row hO.1.1)) ?_; clear hO; intro v w1 hO; (try simp only [World.size_alloc1, World.size_drew, Nat.reduceAdd] at hO); (try simp only [upd, updI, List.map_cons, List.map_nil, eq_self, if_true, if_false, reduceIte, Nat.add_eq_left, Nat.left_eq_add, Nat.reduceEqDiff, List.set_cons_zero, List.set_cons_succ, hG] at hO); clear hG; have hF := hO; (try simp only [Own, Item.Holds, apartI, CellsAt, Nat.reduceAdd, Nat.zero_add, List.mem_cons, List.not_mem_nil, or_false, forall_eq_or_imp, forall_eq, ne_eq, false_imp_iff, implies_true, and_true] at hF)); obtain ⟨ux, hux⟩ : ∃ ux, ux = v := ⟨_, rfl⟩; subst hux) | (go_at_call 28; apply own_at hO; (repeat (first | (with_reducible exact hO) | (with_reducible apply Own.alloc) | (with_reducible apply Own.drew) | ((with_reducible apply Own.set_at); (focus (show _ ≤ _; omega))))); have hG := hF; clear hF; clear hO; intro hO; refine own_call_row hO (fun hB => HS.out _ _ hB (SlAt.of_row hO.2.1.1)) ?_; clear hO; intro v w1 hO; (try simp only [World.size_alloc1, World.size_drew, Nat.reduceAdd] at hO); (try simp only [upd, updI, List.map_cons, List.map_nil, eq_self, if_true, if_false, reduceIte, Nat.add_eq_left, Nat.left_eq_add, Nat.reduceEqDiff, List.set_cons_zero, List.set_cons_succ, hG] at hO); clear hG; have hF := hO; (try simp only [Own, Item.Holds, apartI, CellsAt, Nat.reduceAdd, Nat.zero_add, List.mem_cons, List.not_mem_nil, or_false, forall_eq_or_imp, forall_eq, ne_eq, false_imp_iff, implies_true, and_true] at hF)) | (go_at_call 27; apply own_at hO; (repeat (first | (with_reducible exact hO) | (with_reducible apply Own.alloc) | (with_reducible apply Own.drew) | ((with_reducible apply Own.set_at); (focus (show _ ≤ _; omega))))); have hG := hF; clear hF; clear hO; intro hO; refine own_callO hO (fun hW => sameVoice_same _ _ x _ (SlAt.of_row hW.2.1.1) (SlAt.of_row hW.1.1)) ?_; clear hO; intro w1 hO; (try simp only [World.size_alloc1, World.size_drew, Nat.reduceAdd] at hO); (try simp only [upd, updI, List.map_cons, List.map_nil, eq_self, if_true, if_false, reduceIte, Nat.add_eq_left, Nat.left_eq_add, Nat.reduceEqDiff, List.set_cons_zero, List.set_cons_succ, hG] at hO); clear hG; have hF := hO; (try simp only [Own, Item.Holds, apartI, CellsAt, Nat.reduceAdd, Nat.zero_add, List.mem_cons, List.not_mem_nil, or_false, forall_eq_or_imp, forall_eq, ne_eq, false_imp_iff, implies_true, and_true] at hF)) | (go_at_call 18; apply own_at hO; (repeat (first | (with_reducible exact hO) | (with_reducible apply Own.alloc) | (with_reducible apply Own.drew) | ((with_reducible apply Own.set_at); (focus (show _ ≤ _; omega))))); have hG := hF; clear hF; clear hO; intro hO; refine own_callO hO (fun hW => HV.out _ _ hW.base (SlAt.of_row hW.2.2.1.1)) ?_; clear hO; intro w1 hO; (try simp only [World.size_alloc1, World.size_drew, Nat.reduceAdd] at hO); (try simp only [upd, updI, List.map_cons, List.map_nil, eq_self, if_true, if_false, reduceIte, Nat.add_eq_left, Nat.left_eq_add, Nat.reduceEqDiff, List.set_cons_zero, List.set_cons_succ, hG] at hO); clear hG; have hF := hO; (try simp only [Own, Item.Holds, apartI, CellsAt, Nat.reduceAdd, Nat.zero_add, List.mem_cons, List.not_mem_nil, or_false, forall_eq_or_imp, forall_eq, ne_eq, false_imp_iff, implies_true, and_true] at hF)))
      replace hO := Own.sub (.cons _ (.cons_cons _ (.cons_cons _ .slnil))) hO
      obtain ⟨A, ca, hAv, na, hA⟩ := (SlAt.of_row hO.1.1).open
      subst hAv
      obtain ⟨A', cb, hAv', nb, hA'⟩ := (SlAt.of_row hO.2.1.1).open
      subst hAv'
      go_loopw [5] (fun q wr => ∃ t : Int, 0 ≤ t ∧ t ≤ z + 7 ∧ q = .int .i64 t ∧ Own w.heap.size (Below w.heap.size w) wr [.row 26 6 (.slice A x.length ca) x.length (vcC x), .row 26 6 (.slice A' vs.length cb) vs.length (vcC vs)]) (fun q _ => (z + 7 - intOf q).toNat)
      case atStart => exact ⟨0, by omega, by omega, rfl, hO⟩
      case round =>
        clear hO hF
        obtain ⟨t, t0, t1, rfl, hO⟩ := hrel
        have hF := hO; (try simp only [Own, Item.Holds, apartI, CellsAt, Nat.reduceAdd, Nat.zero_add, List.mem_cons, List.not_mem_nil, or_false, forall_eq_or_imp, forall_eq, ne_eq, false_imp_iff, implies_true, and_true] at hF)
        by_cases he : z ≤ t
        · go_wp2_with (first | (go_at_call 20; apply own_at hO; (repeat (first | (with_reducible exact hO) | (with_reducible apply Own.alloc) | (with_reducible apply Own.drew) | ((with_reducible apply Own.set_at); (focus (show _ ≤ _; omega))))); have hG := hF; clear hF; clear hO; intro hO; refine own_callO hO (fun hW => HT.out _ _ hW.base (SlAt.of_row hW.2.1.1)) ?_; clear hO; intro w1 hO; (try simp only [World.size_alloc1, World.size_drew, Nat.reduceAdd] at hO); (try simp only [upd, updI, List.map_cons, List.map_nil, eq_self, if_true, if_false, reduceIte, Nat.add_eq_left, Nat.left_eq_add, Nat.reduceEqDiff, List.set_cons_zero, List.set_cons_succ, hG] at hO); clear hG; have hF := hO; (try simp only [Own, Item.Holds, apartI, CellsAt, Nat.reduceAdd, Nat.zero_add, List.mem_cons, List.not_mem_nil, or_false, forall_eq_or_imp, forall_eq, ne_eq, false_imp_iff, implies_true, and_true] at hF)) | (go_at_call 20; apply own_at hO; (repeat (first | (with_reducible exact hO) | (with_reducible apply Own.alloc) | (with_reducible apply Own.drew) | ((with_reducible apply Own.set_at); (focus (show _ ≤ _; omega))))); have hG := hF; clear hF; clear hO; intro hO; refine own_callO hO (fun hW => HT2.out _ _ hW.base (SlAt.of_row hW.1.1)) ?_; clear hO; intro w1 hO; (try simp only [World.size_alloc1, World.size_drew, Nat.reduceAdd] at hO); (try simp only [upd, updI, List.map_cons, List.map_nil, eq_self, if_true, if_false, reduceIte, Nat.add_eq_left, Nat.left_eq_add, Nat.reduceEqDiff, List.set_cons_zero, List.set_cons_succ, hG] at hO); clear hG; have hF := hO; (try simp only [Own, Item.Holds, apartI, CellsAt, Nat.reduceAdd, Nat.zero_add, List.mem_cons, List.not_mem_nil, or_false, forall_eq_or_imp, forall_eq, ne_eq, false_imp_iff, implies_true, and_true] at hF)) | (go_at_call 17; apply own_at hO; (repeat (first | (with_reducible exact hO) | (with_reducible apply Own.alloc) | (with_reducible apply Own.drew) | ((with_reducible apply Own.set_at); (focus (show _ ≤ _; omega))))); have hG := hF; clear hF; clear hO; intro hO; refine own_callO hO (fun hW => HV2.out _ _ hW.base (SlAt.of_row hW.1.1)) ?_; clear hO; intro w1 hO; (try simp only [World.size_alloc1, World.size_drew, Nat.reduceAdd] at hO); (try simp only [upd, updI, List.map_cons, List.map_nil, eq_self, if_true, if_false, reduceIte, Nat.add_eq_left, Nat.left_eq_add, Nat.reduceEqDiff, List.set_cons_zero, List.set_cons_succ, hG] at hO); clear hG; have hF := hO; (try simp only [Own, Item.Holds, apartI, CellsAt, Nat.reduceAdd, Nat.zero_add, List.mem_cons, List.not_mem_nil, or_false, forall_eq_or_imp, forall_eq, ne_eq, false_imp_iff, implies_true, and_true] at hF)) | (go_at_call 26; apply own_at hO; (repeat (first | (with_reducible exact hO) | (with_reducible apply Own.alloc) | (with_reducible apply Own.drew) | ((with_reducible apply Own.set_at); (focus (show _ ≤ _; omega))))); have hG := hF; clear hF; clear hO; intro hO; refine own_call_row hO (fun hB => HI2.out _ _ hB (SlAt.of_row hO.1.1)) ?_; clear hO; intro v w1 hO; (try simp only [World.size_alloc1, World.size_drew, Nat.reduceAdd] at hO); (try simp only [upd, updI, List.map_cons, List.map_nil, eq_self, if_true, if_false, reduceIte, Nat.add_eq_left, Nat.left_eq_add, Nat.reduceEqDiff, List.set_cons_zero, List.set_cons_succ, hG] at hO); clear hG; have hF := hO; (try simp only [Own, Item.Holds, apartI, CellsAt, Nat.reduceAdd, Nat.zero_add, List.mem_cons, List.not_mem_nil, or_false, forall_eq_or_imp, forall_eq, ne_eq, false_imp_iff, implies_true, and_true] at hF)) | (go_at_call 27; apply own_at hO; (repeat (first | (with_reducible exact hO) | (with_reducible apply Own.alloc) | (with_reducible apply Own.drew) | ((with_reducible apply Own.set_at); (focus (show _ ≤ _; omega))))); have hG := hF; clear hF; clear hO; intro hO; refine own_callO hO (fun hW => sameVoice_same _ _ x _ (SlAt.of_row hW.1.1) (SlAt.of_row hW.2.1.1)) ?_; clear hO; intro w1 hO; (try simp only [World.size_alloc1, World.size_drew, Nat.reduceAdd] at hO); (try simp only [upd, updI, List.map_cons, List.map_nil, eq_self, if_true, if_false, reduceIte, Nat.add_eq_left, Nat.left_eq_add, Nat.reduceEqDiff, List.set_cons_zero, List.set_cons_succ, hG] at hO); clear hG; have hF := hO; (try simp only [Own, Item.Holds, apartI, CellsAt, Nat.reduceAdd, Nat.zero_add, List.mem_cons, List.not_mem_nil, or_false, forall_eq_or_imp, forall_eq, ne_eq, false_imp_iff, implies_true, and_true] at hF)))
          go_ret
          exact ⟨rfl, Own.base (by (repeat (first | (with_reducible exact hO) | (with_reducible apply Own.alloc) | (with_reducible apply Own.drew) | ((with_reducible apply Own.set_at); (focus (show _ ≤ _; omega))))))⟩
        · have hlt : t < z := by omega
          obtain ⟨j, k, p, q, e1, e2, e3, e4, r1, r2, r3, r4⟩ := SAME.out t t0 hlt
          rw [HX.out] at e2 e4
          have hjl2 := (List.getElem?_eq_some_iff.1 e3).1
          have hkl2 := (List.getElem?_eq_some_iff.1 e4).1
          obtain ⟨bk, off, rfl, hc1, hc2, hbk⟩ := hA (by omega)
          obtain ⟨bk', off', rfl, hc1', hc2', hbk'⟩ := hA' (by omega)
          have HNv := hid (show ∀ (va : Value) (W : World), Below w.heap.size w W → SlAt W va vs.length 6 (vcC vs) → Calls Tryd.prog 23 #[va, .int .i64 t] W fun e w' => e = .returned (.int .i64 j) ∧ Below W.heap.size W w' from fun va W hW hs => by
            have := HN.out va vs t W hW hs HVL.out.1 (by omega) (by omega)
            rwa [e1] at this)
          have HNx := hid (show ∀ (va : Value) (W : World), Below w.heap.size w W → SlAt W va x.length 6 (vcC x) → Calls Tryd.prog 23 #[va, .int .i64 t] W fun e w' => e = .returned (.int .i64 k) ∧ Below W.heap.size W w' from fun va W hW hs => by
            have := HN.out va x t W hW hs HVL.out.2 (by omega) (by omega)
            rwa [e2] at this)
          have E3 := hid e3
          have E4 := hid e4
          have j0 : (0 : Int) ≤ (j : Int) := by omega
          have k0 : (0 : Int) ≤ (k : Int) := by omega
          have j1 : (j : Int) < vs.length := by omega
          have k1 : (k : Int) < x.length := by omega
          have RR := hid (And.intro r1 (And.intro r2 (And.intro r3 r4)))
          clear e1 e2 e3 e4 r1 r2 r3 r4 he
          go_wp2_with (first | (go_at_call 20; apply own_at hO; (repeat (first | (with_reducible exact hO) | (with_reducible apply Own.alloc) | (with_reducible apply Own.drew) | ((with_reducible apply Own.set_at); (focus (show _ ≤ _; omega))))); have hG := hF; clear hF; clear hO; intro hO; refine own_callO hO (fun hW => HT.out _ _ hW.base (SlAt.of_row hW.2.1.1)) ?_; clear hO; intro w1 hO; (try simp only [World.size_alloc1, World.size_drew, Nat.reduceAdd] at hO); (try simp only [upd, updI, List.map_cons, List.map_nil, eq_self, if_true, if_false, reduceIte, Nat.add_eq_left, Nat.left_eq_add, Nat.reduceEqDiff, List.set_cons_zero, List.set_cons_succ, hG] at hO); clear hG; have hF := hO; (try simp only [Own, Item.Holds, apartI, CellsAt, Nat.reduceAdd, Nat.zero_add, List.mem_cons, List.not_mem_nil, or_false, forall_eq_or_imp, forall_eq, ne_eq, false_imp_iff, implies_true, and_true] at hF)) | ((go_at_call 23; apply own_at hO; (repeat (first | (with_reducible exact hO) | (with_reducible apply Own.alloc) | (with_reducible apply Own.drew) | ((with_reducible apply Own.set_at); (focus (show _ ≤ _; omega))))); have hG := hF; clear hF; clear hO; intro hO; refine own_callO hO (fun hW => HNv.out _ _ hW.base (SlAt.of_row hW.2.1.1)) ?_; clear hO; intro w1 hO; (try simp only [World.size_alloc1, World.size_drew, Nat.reduceAdd] at hO); (try simp only [upd, updI, List.map_cons, List.map_nil, eq_self, if_true, if_false, reduceIte, Nat.add_eq_left, Nat.left_eq_add, Nat.reduceEqDiff, List.set_cons_zero, List.set_cons_succ, hG] at hO); clear hG; have hF := hO; (try simp only [Own, Item.Holds, apartI, CellsAt, Nat.reduceAdd, Nat.zero_add, List.mem_cons, List.not_mem_nil, or_false, forall_eq_or_imp, forall_eq, ne_eq, false_imp_iff, implies_true, and_true] at hF)); clear HNv) | ((go_at_call 23; apply own_at hO; (repeat (first | (with_reducible exact hO) | (with_reducible apply Own.alloc) | (with_reducible apply Own.drew) | ((with_reducible apply Own.set_at); (focus (show _ ≤ _; omega))))); have hG := hF; clear hF; clear hO; intro hO; refine own_callO hO (fun hW => HNx.out _ _ hW.base (SlAt.of_row hW.1.1)) ?_; clear hO; intro w1 hO; (try simp only [World.size_alloc1, World.size_drew, Nat.reduceAdd] at hO); (try simp only [upd, updI, List.map_cons, List.map_nil, eq_self, if_true, if_false, reduceIte, Nat.add_eq_left, Nat.left_eq_add, Nat.reduceEqDiff, List.set_cons_zero, List.set_cons_succ, hG] at hO); clear hG; have hF := hO; (try simp only [Own, Item.Holds, apartI, CellsAt, Nat.reduceAdd, Nat.zero_add, List.mem_cons, List.not_mem_nil, or_false, forall_eq_or_imp, forall_eq, ne_eq, false_imp_iff, implies_true, and_true] at hF)); clear HNx))
          apply own_code hO
          (repeat (first | (with_reducible exact hO) | (with_reducible apply Own.alloc) | (with_reducible apply Own.drew) | ((with_reducible apply Own.set_at); (focus (show _ ≤ _; omega)))))
          have hG := hF; clear hF; clear hO; intro hO
          (try simp only [World.size_alloc1, World.size_drew, Nat.reduceAdd] at hO); (try simp only [upd, updI, List.map_cons, List.map_nil, eq_self, if_true, if_false, reduceIte, Nat.add_eq_left, Nat.left_eq_add, Nat.reduceEqDiff, List.set_cons_zero, List.set_cons_succ, hG] at hO); clear hG
          refine region_own (X := fun _ => True) [] (by kernel_rfl) (hO) (trivial) (by first | exact XStab.true | exact XStab.rd) ?_
          clear hO
          refine Sim.takeP (i := 0) (d := some 41) (v := ?_) rfl rfl (by kernel_rfl) (by kernel_rfl) (by kernel_rfl) (fun _ _ _ h => h) (by first | exact XStab.true | exact XStab.rd) ?_ ?_
          rotate_left
          · first | refine Or.inl ⟨by rfl, fun w => ?_⟩ | (refine Or.inr ⟨by rfl, ?_⟩; with_reducible rfl)
            first | done | (go_simp; all_goals with_reducible rfl)
          try simp only [Act.put, List.setIfInBounds_toArray, List.set_cons_zero, List.set_cons_succ]
          refine Sim.takeP (i := 1) (d := some 42) (v := ?_) rfl rfl (by kernel_rfl) (by kernel_rfl) (by kernel_rfl) (fun _ _ _ h => h) (by first | exact XStab.true | exact XStab.rd) ?_ ?_
          rotate_left
          · first | refine Or.inl ⟨by rfl, fun w => ?_⟩ | (refine Or.inr ⟨by rfl, ?_⟩; with_reducible rfl)
            first | done | (go_simp; all_goals with_reducible rfl)
          try simp only [Act.put, List.setIfInBounds_toArray, List.set_cons_zero, List.set_cons_succ]
          refine Sim.takeP (i := 2) (d := some 43) (v := ?_) rfl rfl (by kernel_rfl) (by kernel_rfl) (by kernel_rfl) (fun _ _ _ h => h) (by first | exact XStab.true | exact XStab.rd) ?_ ?_
          rotate_left
          · first | refine Or.inl ⟨by rfl, fun w => ?_⟩ | (refine Or.inr ⟨by rfl, ?_⟩; with_reducible rfl)
            first | done | (go_simp; all_goals with_reducible rfl)
          try simp only [Act.put, List.setIfInBounds_toArray, List.set_cons_zero, List.set_cons_succ]
          refine Sim.takeP (i := 3) (d := some 44) (v := ?_) rfl rfl (by kernel_rfl) (by kernel_rfl) (by kernel_rfl) (fun _ _ _ h => h) (by first | exact XStab.true | exact XStab.rd) ?_ ?_
          rotate_left
          · first | refine Or.inl ⟨by rfl, fun w => ?_⟩ | (refine Or.inr ⟨by rfl, ?_⟩; with_reducible rfl)
            first | done | (go_simp; all_goals with_reducible rfl)
          try simp only [Act.put, List.setIfInBounds_toArray, List.set_cons_zero, List.set_cons_succ]
          refine Sim.takeP (i := 4) (d := some 45) (v := ?_) rfl rfl (by kernel_rfl) (by kernel_rfl) (by kernel_rfl) (fun _ _ _ h => h) (by first | exact XStab.true | exact XStab.rd) ?_ ?_
          rotate_left
          · first | refine Or.inl ⟨by rfl, fun w => ?_⟩ | (refine Or.inr ⟨by rfl, ?_⟩; with_reducible rfl)
            first | done | (go_simp; all_goals with_reducible rfl)
          try simp only [Act.put, List.setIfInBounds_toArray, List.set_cons_zero, List.set_cons_succ]
          refine Sim.takeP (i := 5) (d := some 46) (v := ?_) rfl rfl (by kernel_rfl) (by kernel_rfl) (by kernel_rfl) (fun _ _ _ h => h) (by first | exact XStab.true | exact XStab.rd) ?_ ?_
          rotate_left
          · first | refine Or.inl ⟨by rfl, fun w => ?_⟩ | (refine Or.inr ⟨by rfl, ?_⟩; with_reducible rfl)
            first | done | (go_simp; all_goals with_reducible rfl)
          try simp only [Act.put, List.setIfInBounds_toArray, List.set_cons_zero, List.set_cons_succ]
          refine Sim.takeP (i := 6) (d := some 47) (v := ?_) rfl rfl (by kernel_rfl) (by kernel_rfl) (by kernel_rfl) (fun _ _ _ h => h) (by first | exact XStab.true | exact XStab.rd) ?_ ?_
          rotate_left
          · first | refine Or.inl ⟨by rfl, fun w => ?_⟩ | (refine Or.inr ⟨by rfl, ?_⟩; with_reducible rfl)
            first | done | (go_simp; all_goals with_reducible rfl)
          try simp only [Act.put, List.setIfInBounds_toArray, List.set_cons_zero, List.set_cons_succ]
          refine Sim.takeP (i := 7) (d := some 48) (v := ?_) rfl rfl (by kernel_rfl) (by kernel_rfl) (by kernel_rfl) (fun _ _ _ h => h) (by first | exact XStab.true | exact XStab.rd) ?_ ?_
          rotate_left
          · first | refine Or.inl ⟨by rfl, fun w => ?_⟩ | (refine Or.inr ⟨by rfl, ?_⟩; with_reducible rfl)
            first | done | (go_simp; all_goals with_reducible rfl)
          try simp only [Act.put, List.setIfInBounds_toArray, List.set_cons_zero, List.set_cons_succ]
          refine Sim.takeP (i := 8) (d := some 49) (v := ?_) rfl rfl (by kernel_rfl) (by kernel_rfl) (by kernel_rfl) (fun _ _ _ h => h) (by first | exact XStab.true | exact XStab.rd) ?_ ?_
          rotate_left
          · first | refine Or.inl ⟨by rfl, fun w => ?_⟩ | (refine Or.inr ⟨by rfl, ?_⟩; with_reducible rfl)
            first | done | (go_simp; all_goals with_reducible rfl)
          try simp only [Act.put, List.setIfInBounds_toArray, List.set_cons_zero, List.set_cons_succ]
          refine Sim.takeP (i := 9) (d := some 50) (v := ?_) rfl rfl (by kernel_rfl) (by kernel_rfl) (by kernel_rfl) (fun _ _ _ h => h) (by first | exact XStab.true | exact XStab.rd) ?_ ?_
          rotate_left
          · first | refine Or.inl ⟨by rfl, fun w => ?_⟩ | (refine Or.inr ⟨by rfl, ?_⟩; with_reducible rfl)
            first | done | (go_simp; all_goals with_reducible rfl)
          try simp only [Act.put, List.setIfInBounds_toArray, List.set_cons_zero, List.set_cons_succ]
          refine Sim.takeP (i := 10) (d := some 51) (v := ?_) rfl rfl (by kernel_rfl) (by kernel_rfl) (by kernel_rfl) (fun _ _ _ h => h) (by first | exact XStab.true | exact XStab.rd) ?_ ?_
          rotate_left
          · first | refine Or.inl ⟨by rfl, fun w => ?_⟩ | (refine Or.inr ⟨by rfl, ?_⟩; with_reducible rfl)
            first | done | (go_simp; all_goals with_reducible rfl)
          try simp only [Act.put, List.setIfInBounds_toArray, List.set_cons_zero, List.set_cons_succ]
          refine Sim.take (i := 11) (d := some 52) (v := ?_) rfl rfl (by kernel_rfl) (by kernel_rfl) (by kernel_rfl) (by kernel_rfl) (fun _ _ _ h => h) (by first | exact XStab.true | exact XStab.rd) ?_ ?_
          rotate_left
          · first | refine Or.inl ⟨by rfl, fun w hO => ?_⟩ | (refine Or.inr ⟨by rfl, ?_⟩; with_reducible rfl)
            first | done | (have hF := hO; (try simp only [Own, Item.Holds, apartI, CellsAt, Nat.reduceAdd, Nat.zero_add, List.mem_cons, List.not_mem_nil, or_false, forall_eq_or_imp, forall_eq, ne_eq, false_imp_iff, implies_true, and_true] at hF); ((have ⟨d0, d1, d2, d3, d4, d5⟩ := noteAt (SlAt.of_row hO.2.1.1) E3.out; have ⟨g0, g1, g2, g3, g4, g5⟩ := noteAt (SlAt.of_row hO.1.1) E4.out; rw [← RR.out.1] at g0; rw [← RR.out.2.1] at g1; rw [← RR.out.2.2.1] at g2; rw [← RR.out.2.2.2] at g3)); refine Out.same ?_; go_simp; all_goals with_reducible rfl)
          try simp only [Act.put, List.setIfInBounds_toArray, List.set_cons_zero, List.set_cons_succ]
          refine Sim.takeP (i := 12) (d := some 53) (v := ?_) rfl rfl (by kernel_rfl) (by kernel_rfl) (by kernel_rfl) (fun _ _ _ h => h) (by first | exact XStab.true | exact XStab.rd) ?_ ?_
          rotate_left
          · first | refine Or.inl ⟨by rfl, fun w => ?_⟩ | (refine Or.inr ⟨by rfl, ?_⟩; with_reducible rfl)
            first | done | (go_simp; all_goals with_reducible rfl)
          try simp only [Act.put, List.setIfInBounds_toArray, List.set_cons_zero, List.set_cons_succ]
          refine Sim.takeP (i := 13) (d := some 54) (v := ?_) rfl rfl (by kernel_rfl) (by kernel_rfl) (by kernel_rfl) (fun _ _ _ h => h) (by first | exact XStab.true | exact XStab.rd) ?_ ?_
          rotate_left
          · first | refine Or.inl ⟨by rfl, fun w => ?_⟩ | (refine Or.inr ⟨by rfl, ?_⟩; with_reducible rfl)
            first | done | (go_simp; all_goals with_reducible rfl)
          try simp only [Act.put, List.setIfInBounds_toArray, List.set_cons_zero, List.set_cons_succ]
          refine Sim.takeP (i := 14) (d := some 55) (v := ?_) rfl rfl (by kernel_rfl) (by kernel_rfl) (by kernel_rfl) (fun _ _ _ h => h) (by first | exact XStab.true | exact XStab.rd) ?_ ?_
          rotate_left
          · first | refine Or.inl ⟨by rfl, fun w => ?_⟩ | (refine Or.inr ⟨by rfl, ?_⟩; with_reducible rfl)
            first | done | (go_simp; all_goals with_reducible rfl)
          try simp only [Act.put, List.setIfInBounds_toArray, List.set_cons_zero, List.set_cons_succ]
          refine Sim.takeP (i := 15) (d := some 56) (v := ?_) rfl rfl (by kernel_rfl) (by kernel_rfl) (by kernel_rfl) (fun _ _ _ h => h) (by first | exact XStab.true | exact XStab.rd) ?_ ?_
          rotate_left
          · first | refine Or.inl ⟨by rfl, fun w => ?_⟩ | (refine Or.inr ⟨by rfl, ?_⟩; with_reducible rfl)
            first | done | (go_simp; all_goals with_reducible rfl)
          try simp only [Act.put, List.setIfInBounds_toArray, List.set_cons_zero, List.set_cons_succ]
          refine Sim.take (i := 16) (d := some 57) (v := ?_) rfl rfl (by kernel_rfl) (by kernel_rfl) (by kernel_rfl) (by kernel_rfl) (fun _ _ _ h => h) (by first | exact XStab.true | exact XStab.rd) ?_ ?_
          rotate_left
          · first | refine Or.inl ⟨by rfl, fun w hO => ?_⟩ | (refine Or.inr ⟨by rfl, ?_⟩; with_reducible rfl)
            first | done | (have hF := hO; (try simp only [Own, Item.Holds, apartI, CellsAt, Nat.reduceAdd, Nat.zero_add, List.mem_cons, List.not_mem_nil, or_false, forall_eq_or_imp, forall_eq, ne_eq, false_imp_iff, implies_true, and_true] at hF); ((have ⟨d0, d1, d2, d3, d4, d5⟩ := noteAt (SlAt.of_row hO.2.1.1) E3.out; have ⟨g0, g1, g2, g3, g4, g5⟩ := noteAt (SlAt.of_row hO.1.1) E4.out; rw [← RR.out.1] at g0; rw [← RR.out.2.1] at g1; rw [← RR.out.2.2.1] at g2; rw [← RR.out.2.2.2] at g3)); refine Out.same ?_; go_simp; all_goals with_reducible rfl)
          try simp only [Act.put, List.setIfInBounds_toArray, List.set_cons_zero, List.set_cons_succ]
          refine Sim.takeP (i := 17) (d := some 58) (v := ?_) rfl rfl (by kernel_rfl) (by kernel_rfl) (by kernel_rfl) (fun _ _ _ h => h) (by first | exact XStab.true | exact XStab.rd) ?_ ?_
          rotate_left
          · first | refine Or.inl ⟨by rfl, fun w => ?_⟩ | (refine Or.inr ⟨by rfl, ?_⟩; with_reducible rfl)
            first | done | (go_simp; all_goals with_reducible rfl)
          try simp only [Act.put, List.setIfInBounds_toArray, List.set_cons_zero, List.set_cons_succ]
          refine Sim.takeP (i := 18) (d := some 59) (v := ?_) rfl rfl (by kernel_rfl) (by kernel_rfl) (by kernel_rfl) (fun _ _ _ h => h) (by first | exact XStab.true | exact XStab.rd) ?_ ?_
          rotate_left
          · first | refine Or.inl ⟨by rfl, fun w => ?_⟩ | (refine Or.inr ⟨by rfl, ?_⟩; with_reducible rfl)
            first | done | (go_simp; all_goals with_reducible rfl)
          try simp only [Act.put, List.setIfInBounds_toArray, List.set_cons_zero, List.set_cons_succ]
          refine Sim.takeP (i := 19) (d := some 60) (v := ?_) rfl rfl (by kernel_rfl) (by kernel_rfl) (by kernel_rfl) (fun _ _ _ h => h) (by first | exact XStab.true | exact XStab.rd) ?_ ?_
          rotate_left
          · first | refine Or.inl ⟨by rfl, fun w => ?_⟩ | (refine Or.inr ⟨by rfl, ?_⟩; with_reducible rfl)
            first | done | (go_simp; all_goals with_reducible rfl)
          try simp only [Act.put, List.setIfInBounds_toArray, List.set_cons_zero, List.set_cons_succ]
          refine Sim.takeP (i := 20) (d := some 61) (v := ?_) rfl rfl (by kernel_rfl) (by kernel_rfl) (by kernel_rfl) (fun _ _ _ h => h) (by first | exact XStab.true | exact XStab.rd) ?_ ?_
          rotate_left
          · first | refine Or.inl ⟨by rfl, fun w => ?_⟩ | (refine Or.inr ⟨by rfl, ?_⟩; with_reducible rfl)
            first | done | (go_simp; all_goals with_reducible rfl)
          try simp only [Act.put, List.setIfInBounds_toArray, List.set_cons_zero, List.set_cons_succ]
          refine Sim.takeP (i := 21) (d := some 62) (v := ?_) rfl rfl (by kernel_rfl) (by kernel_rfl) (by kernel_rfl) (fun _ _ _ h => h) (by first | exact XStab.true | exact XStab.rd) ?_ ?_
          rotate_left
          · first | refine Or.inl ⟨by rfl, fun w => ?_⟩ | (refine Or.inr ⟨by rfl, ?_⟩; with_reducible rfl)
            first | done | (go_simp; all_goals with_reducible rfl)
          try simp only [Act.put, List.setIfInBounds_toArray, List.set_cons_zero, List.set_cons_succ]
          refine Sim.takeP (i := 22) (d := some 63) (v := ?_) rfl rfl (by kernel_rfl) (by kernel_rfl) (by kernel_rfl) (fun _ _ _ h => h) (by first | exact XStab.true | exact XStab.rd) ?_ ?_
          rotate_left
          · first | refine Or.inl ⟨by rfl, fun w => ?_⟩ | (refine Or.inr ⟨by rfl, ?_⟩; with_reducible rfl)
            first | done | (go_simp; all_goals with_reducible rfl)
          try simp only [Act.put, List.setIfInBounds_toArray, List.set_cons_zero, List.set_cons_succ]
          refine Sim.takeP (i := 23) (d := some 64) (v := ?_) rfl rfl (by kernel_rfl) (by kernel_rfl) (by kernel_rfl) (fun _ _ _ h => h) (by first | exact XStab.true | exact XStab.rd) ?_ ?_
          rotate_left
          · first | refine Or.inl ⟨by rfl, fun w => ?_⟩ | (refine Or.inr ⟨by rfl, ?_⟩; with_reducible rfl)
            first | done | (go_simp; all_goals with_reducible rfl)
          try simp only [Act.put, List.setIfInBounds_toArray, List.set_cons_zero, List.set_cons_succ]
          refine Sim.take (i := 24) (d := some 65) (v := ?_) rfl rfl (by kernel_rfl) (by kernel_rfl) (by kernel_rfl) (by kernel_rfl) (fun _ _ _ h => h) (by first | exact XStab.true | exact XStab.rd) ?_ ?_
          rotate_left
          · first | refine Or.inl ⟨by rfl, fun w hO => ?_⟩ | (refine Or.inr ⟨by rfl, ?_⟩; with_reducible rfl)
            first | done | (have hF := hO; (try simp only [Own, Item.Holds, apartI, CellsAt, Nat.reduceAdd, Nat.zero_add, List.mem_cons, List.not_mem_nil, or_false, forall_eq_or_imp, forall_eq, ne_eq, false_imp_iff, implies_true, and_true] at hF); ((have ⟨d0, d1, d2, d3, d4, d5⟩ := noteAt (SlAt.of_row hO.2.1.1) E3.out; have ⟨g0, g1, g2, g3, g4, g5⟩ := noteAt (SlAt.of_row hO.1.1) E4.out; rw [← RR.out.1] at g0; rw [← RR.out.2.1] at g1; rw [← RR.out.2.2.1] at g2; rw [← RR.out.2.2.2] at g3)); refine Out.same ?_; go_simp; all_goals with_reducible rfl)
          try simp only [Act.put, List.setIfInBounds_toArray, List.set_cons_zero, List.set_cons_succ]
          refine Sim.takeP (i := 25) (d := some 66) (v := ?_) rfl rfl (by kernel_rfl) (by kernel_rfl) (by kernel_rfl) (fun _ _ _ h => h) (by first | exact XStab.true | exact XStab.rd) ?_ ?_
          rotate_left
          · first | refine Or.inl ⟨by rfl, fun w => ?_⟩ | (refine Or.inr ⟨by rfl, ?_⟩; with_reducible rfl)
            first | done | (go_simp; all_goals with_reducible rfl)
          try simp only [Act.put, List.setIfInBounds_toArray, List.set_cons_zero, List.set_cons_succ]
          refine Sim.takeP (i := 26) (d := some 67) (v := ?_) rfl rfl (by kernel_rfl) (by kernel_rfl) (by kernel_rfl) (fun _ _ _ h => h) (by first | exact XStab.true | exact XStab.rd) ?_ ?_
          rotate_left
          · first | refine Or.inl ⟨by rfl, fun w => ?_⟩ | (refine Or.inr ⟨by rfl, ?_⟩; with_reducible rfl)
            first | done | (go_simp; all_goals with_reducible rfl)
          try simp only [Act.put, List.setIfInBounds_toArray, List.set_cons_zero, List.set_cons_succ]
          refine Sim.takeP (i := 27) (d := some 68) (v := ?_) rfl rfl (by kernel_rfl) (by kernel_rfl) (by kernel_rfl) (fun _ _ _ h => h) (by first | exact XStab.true | exact XStab.rd) ?_ ?_
          rotate_left
          · first | refine Or.inl ⟨by rfl, fun w => ?_⟩ | (refine Or.inr ⟨by rfl, ?_⟩; with_reducible rfl)
            first | done | (go_simp; all_goals with_reducible rfl)
          try simp only [Act.put, List.setIfInBounds_toArray, List.set_cons_zero, List.set_cons_succ]
          refine Sim.takeP (i := 28) (d := some 69) (v := ?_) rfl rfl (by kernel_rfl) (by kernel_rfl) (by kernel_rfl) (fun _ _ _ h => h) (by first | exact XStab.true | exact XStab.rd) ?_ ?_
          rotate_left
          · first | refine Or.inl ⟨by rfl, fun w => ?_⟩ | (refine Or.inr ⟨by rfl, ?_⟩; with_reducible rfl)
            first | done | (go_simp; all_goals with_reducible rfl)
          try simp only [Act.put, List.setIfInBounds_toArray, List.set_cons_zero, List.set_cons_succ]
          refine Sim.take (i := 29) (d := some 70) (v := ?_) rfl rfl (by kernel_rfl) (by kernel_rfl) (by kernel_rfl) (by kernel_rfl) (fun _ _ _ h => h) (by first | exact XStab.true | exact XStab.rd) ?_ ?_
          rotate_left
          · first | refine Or.inl ⟨by rfl, fun w hO => ?_⟩ | (refine Or.inr ⟨by rfl, ?_⟩; with_reducible rfl)
            first | done | (have hF := hO; (try simp only [Own, Item.Holds, apartI, CellsAt, Nat.reduceAdd, Nat.zero_add, List.mem_cons, List.not_mem_nil, or_false, forall_eq_or_imp, forall_eq, ne_eq, false_imp_iff, implies_true, and_true] at hF); ((have ⟨d0, d1, d2, d3, d4, d5⟩ := noteAt (SlAt.of_row hO.2.1.1) E3.out; have ⟨g0, g1, g2, g3, g4, g5⟩ := noteAt (SlAt.of_row hO.1.1) E4.out; rw [← RR.out.1] at g0; rw [← RR.out.2.1] at g1; rw [← RR.out.2.2.1] at g2; rw [← RR.out.2.2.2] at g3)); refine Out.same ?_; go_simp; all_goals with_reducible rfl)
          try simp only [Act.put, List.setIfInBounds_toArray, List.set_cons_zero, List.set_cons_succ]
          refine Sim.takeP (i := 30) (d := some 71) (v := ?_) rfl rfl (by kernel_rfl) (by kernel_rfl) (by kernel_rfl) (fun _ _ _ h => h) (by first | exact XStab.true | exact XStab.rd) ?_ ?_
          rotate_left
          · first | refine Or.inl ⟨by rfl, fun w => ?_⟩ | (refine Or.inr ⟨by rfl, ?_⟩; with_reducible rfl)
            first | done | (go_simp; all_goals with_reducible rfl)
          try simp only [Act.put, List.setIfInBounds_toArray, List.set_cons_zero, List.set_cons_succ]
          refine Sim.takeP (i := 31) (d := some 72) (v := ?_) rfl rfl (by kernel_rfl) (by kernel_rfl) (by kernel_rfl) (fun _ _ _ h => h) (by first | exact XStab.true | exact XStab.rd) ?_ ?_
          rotate_left
          · first | refine Or.inl ⟨by rfl, fun w => ?_⟩ | (refine Or.inr ⟨by rfl, ?_⟩; with_reducible rfl)
            first | done | (go_simp; all_goals with_reducible rfl)
          try simp only [Act.put, List.setIfInBounds_toArray, List.set_cons_zero, List.set_cons_succ]
          refine Sim.done (by kernel_rfl) (fun w1 hO hX => ?_) _
          (try simp only [World.size_alloc1, World.size_drew, Nat.reduceAdd] at hO); (try simp only [upd, updI, List.map_cons, List.map_nil, eq_self, if_true, if_false, reduceIte, Nat.add_eq_left, Nat.left_eq_add, Nat.reduceEqDiff, List.set_cons_zero, List.set_cons_succ] at hO)
          have hF := hO; (try simp only [Own, Item.Holds, apartI, CellsAt, Nat.reduceAdd, Nat.zero_add, List.mem_cons, List.not_mem_nil, or_false, forall_eq_or_imp, forall_eq, ne_eq, false_imp_iff, implies_true, and_true] at hF)
          go_wp2
          go_roundw
          case rel => exact ⟨t + 7, by omega, by omega, by go_num, hO⟩
          case measure => simp [intOf]; omega
  · have hl' : 1048576 < (n : Int) := by omega
    go_enter Tryd.func7, Tryd.ntmps7
    go_wp2
    go_ret
    exact ⟨rfl, Below.refl _ _⟩
end Go.Proofs.YtepelgaekgllcaaDoor
