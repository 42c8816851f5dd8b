/- The walk of the law of P124: sections follow each other. -/
import Derived.Test.YtpfefbpmchigeaaDoorLawsSe3
namespace Go.Proofs.YtpfefbpmchigeaaDoor
set_option linter.unusedSimpArgs false
set_option linter.unusedVariables false
open Go.RowKit

theorem bytes_below {w w' : World} {v : Value} {n : Nat} (h : BytesB w w.heap.size v n) (hb : Below w.heap.size w w') : BytesB w' w'.heap.size v n := by
  rcases h with h | ⟨h0, b, off, cap, h1, h2, h3, h4, h5, h6⟩
  · exact Or.inl h
  · have := hb.size
    exact Or.inr ⟨h0, b, off, cap, h1, h2, h3, by omega, by omega, fun i hi => by
      obtain ⟨z, z0, z1, hz⟩ := h6 i hi
      exact ⟨z, z0, z1, by rw [(bcell hb).1 _ _ h5]; exact hz⟩⟩
theorem poJ_len (l : List Sec) : (poL l).length ≤ 768 := by
  unfold poL
  split
  · rename_i h
    have := (po_len h).2.1
    omega
  · simp
theorem poJ_mem (l : List Sec) : ∀ y ∈ poL l, 0 ≤ y ∧ y ≤ 480 := fun y hy => by
  unfold poL at hy
  split at hy
  · rename_i h
    have h1 := plL_mem (ssB_iff.1 h).1 hy
    have h2 := po_len h
    omega
  · cases hy
theorem po_join {a b : List Sec} (h : ssB (a ++ b) = true) : poL (a ++ b) = poL a ++ (poL b).map (· + wrN a) := by
  obtain ⟨h1, h2⟩ := ssB_left h
  rw [poL_yes h, poL_yes h1, poL_yes h2, plL_join]

set_option maxRecDepth 20000 in
set_option maxHeartbeats 2000000 in
theorem fnSectionsJoin_any (v : Value) (n : Nat) (v2 : Value) (n2 : Nat) (w : World) (hn : n ≤ maxLen) (h : BytesB w w.heap.size v n) (hn2 : n2 ≤ maxLen) (h2 : BytesB w w.heap.size v2 n2) (ht : TabH w) :
    Calls Tryd.prog 8 #[v, v2] w fun e w' => e = .returned (.bool true) ∧ Below w.heap.size w w' := by
  obtain ⟨a0, c0, rfl⟩ := bytes_form h
  obtain ⟨a2, c2, rfl⟩ := bytes_form h2
  have hn' : (n : Int) ≤ 9223372036854775807 := by unfold maxLen at hn; omega
  have hn2' : (n2 : Int) ≤ 9223372036854775807 := by unfold maxLen at hn2; omega
  obtain ⟨i0, hi, hz0, hz1, hz2⟩ := info_parts infoS9
  obtain ⟨j0, gi, gz0, gz1, gz2⟩ := info_parts infoI7
  by_cases hl : n ≤ 1048576
  · by_cases hl2 : n2 ≤ 1048576
    · have hl' : (n : Int) ≤ 1048576 := by omega
      have hl2' : (n2 : Int) ≤ 1048576 := by omega
      go_enter Tryd.func8, Tryd.ntmps8
      go_wp2_with fail
      refine (DrawPlayedOrder_any _ n _ hn h).mono ?_
      rintro e wc ⟨u, l, hs, hl9, rfl, hS, hb0⟩
      have H2 := hid (bytes_below h2 hb0)
      clear hn h h2
      go_wp2_with fail
      refine (DrawPlayedOrder_any _ n2 _ hn2 H2.out).mono ?_
      rintro e wd ⟨u2, l2, hs2, hl92, rfl, hS2, hb2⟩
      have hS1 := hS.below hb2
      have HB0 := hid (btr hb0 hb2)
      have HT := hid (ht.below HB0.out)
      have hle := se_few hs
      have hle2 := se_few hs2
      have hn9 : l.length ≤ 1048576 := by omega
      have hn92 : l2.length ≤ 1048576 := by omega
      clear H2 hn2 hS hb0 hb2 hs hs2
      have hO := Own.start wd
      have hF := True.intro
      have HI := hid (fun W (hW : Below wd.heap.size wd W) => poI_is hS1.at hn9 hle rfl W hW)
      have HS := hid (fun W (hW : Below wd.heap.size wd W) => poS_is hS1.at hn9 hle rfl W hW)
      have HI2 := hid (fun W (hW : Below wd.heap.size wd W) => poI_is hS2.at hn92 hle2 rfl W hW)
      have HAI := hid (allInt_C (poL l))
      obtain ⟨ea, q1, q2, q3⟩ := id hS1
      obtain ⟨eb, r1, r2, r3⟩ := id hS2
      have HXA := hid (scC_one q1 q3)
      have HXB := hid (scC_one r1 r3)
      have HQA := hid (fun W (hW : Below wd.heap.size wd W) => q2.below hW)
      have HQB := hid (fun W (hW : Below wd.heap.size wd W) => r2.below hW)
      have HBO := hid (fun W v (hW : Below wd.heap.size wd W) (h : SlAt W v (l.length + l2.length) 3 (scC l ea ++ scC l2 eb)) => show SecsAt W v (l ++ l2) from
        (SecsR.join q1 r1 h (fun k s ev a b => (q3 k s ev a b).below hW) (fun k s ev a b => (r3 k s ev a b).below hW)).at)
      have hnb : (l ++ l2).length ≤ 1048576 := by rw [List.length_append]; omega
      have hleb := se_app hle hle2
      obtain ⟨o, ho⟩ : ∃ o, ssB (l ++ l2) = o := ⟨_, rfl⟩
      have HVB := hid (fun W v (h : SecsAt W v (l ++ l2)) => show Calls Tryd.prog 15 #[v] W fun r w' => r = .returned (.bool o) ∧ Below W.heap.size W w' from ho ▸ ssS_any v (l ++ l2) W h hnb hleb)
      have HWB := hid (fun W v (h : SecsAt W v (l ++ l2)) => wrI_any v (l ++ l2) W h hnb hleb)
      have HPB := hid (fun W v (h : SecsAt W v (l ++ l2)) => poI_any v (l ++ l2) W h hnb hleb)
      obtain ⟨P, hP⟩ : ∃ P, poL l = P := ⟨_, rfl⟩
      obtain ⟨P2, hP2⟩ : ∃ P2, poL l2 = P2 := ⟨_, rfl⟩
      obtain ⟨K, hK⟩ : ∃ K, P.length = K := ⟨_, rfl⟩
      obtain ⟨K2, hK2⟩ : ∃ K2, P2.length = K2 := ⟨_, rfl⟩
      have HY2 := hid (show ∀ y ∈ P2, 0 ≤ y ∧ y ≤ 480 from by
        rw [← hP2]
        exact poJ_mem l2)
      have k7 : K ≤ 768 := by rw [← hK, ← hP]; exact poJ_len l
      have k72 : K2 ≤ 768 := by rw [← hK2, ← hP2]; exact poJ_len l2
      have HJ := hid (fun (h : o = true) => show poL (l ++ l2) = P ++ P2.map (· + wrN l) ∧ wrZ (l ++ l2) = wrN l + wrN l2 ∧ wrZ l = wrN l ∧ wrZ l2 = wrN l2 ∧ (0 ≤ wrN l ∧ wrN l ≤ 480) ∧ (0 ≤ wrN l2 ∧ wrN l2 ≤ 480) from by
        rw [h] at ho
        obtain ⟨h1, h2⟩ := ssB_left ho
        refine ⟨by rw [po_join ho, hP, hP2], ?_, ?_, ?_, ?_, ?_⟩
        · unfold wrZ; rw [if_pos ho, wrN_append]
        · unfold wrZ; rw [if_pos h1]
        · unfold wrZ; rw [if_pos h2]
        · have := po_len h1; omega
        · have := po_len h2; omega)
      have HW := hid (fun W (hW : Below wd.heap.size wd W) => wrI_is hS1.at hn9 hle rfl W hW)
      have HW2 := hid (fun W (hW : Below wd.heap.size wd W) => wrI_is hS2.at hn92 hle2 rfl W hW)
      rw [hP, hK] at HI HS
      rw [hP] at HAI
      rw [hP2, hK2] at HI2
      obtain ⟨A, c, rfl, _⟩ := hS1.at.open
      obtain ⟨A', c', rfl, _⟩ := hS2.at.open
      obtain ⟨m, hm⟩ : ∃ m, l.length = m := ⟨_, rfl⟩
      obtain ⟨m', hm'⟩ : ∃ m', l2.length = m' := ⟨_, rfl⟩
      rw [hm] at hl9 HI HS HW HQA
      rw [hm'] at hl92 HI2 HW2 HQB
      rw [hm, hm'] at HBO
      rw [hm, hm']
      have HKK := hid (And.intro hK hK2)
      clear hS1 hS2 hle hle2 hn9 hn92 q1 q2 q3 r1 r2 r3 hnb hleb ho hP hP2 hm hm' hK hK2
      go_wp2_with (go_at_call 19; apply own_at hO; (repeat (first | (with_reducible exact hO) | (with_reducible apply Own.alloc) | (with_reducible apply Own.drew) | ((with_reducible apply Own.set_at); (focus (show _ ≤ _; omega))))); have hG := hF; clear hF; clear hO; intro hO; refine own_call_row hO (fun hB => HI.out _ hB) ?_; clear hO; intro v w1 hO; (try simp only [World.size_alloc1, World.size_drew, Nat.reduceAdd] at hO); (try simp only [upd, updI, List.map_cons, List.map_nil, eq_self, if_true, if_false, reduceIte, Nat.add_eq_left, Nat.left_eq_add, Nat.reduceEqDiff, List.set_cons_zero, List.set_cons_succ, hG] at hO); clear hG; have hF := hO; (try simp only [Own, Item.Holds, apartI, CellsAt, Nat.reduceAdd, Nat.zero_add, List.mem_cons, List.not_mem_nil, or_false, forall_eq_or_imp, forall_eq, ne_eq, false_imp_iff, implies_true, and_true] at hF))
      go_wp2_with (first | (go_at_call 22; apply own_at hO; (repeat (first | (with_reducible exact hO) | (with_reducible apply Own.alloc) | (with_reducible apply Own.drew) | ((with_reducible apply Own.set_at); (focus (show _ ≤ _; omega))))); have hG := hF; clear hF; clear hO; intro hO; refine own_call_row hO (fun hB => HS.out _ hB) ?_; clear hO; intro v w1 hO; (try simp only [World.size_alloc1, World.size_drew, Nat.reduceAdd] at hO); (try simp only [upd, updI, List.map_cons, List.map_nil, eq_self, if_true, if_false, reduceIte, Nat.add_eq_left, Nat.left_eq_add, Nat.reduceEqDiff, List.set_cons_zero, List.set_cons_succ, hG] at hO); clear hG; have hF := hO; (try simp only [Own, Item.Holds, apartI, CellsAt, Nat.reduceAdd, Nat.zero_add, List.mem_cons, List.not_mem_nil, or_false, forall_eq_or_imp, forall_eq, ne_eq, false_imp_iff, implies_true, and_true] at hF)) | ((go_at_call 21; apply own_at hO; (repeat (first | (with_reducible exact hO) | (with_reducible apply Own.alloc) | (with_reducible apply Own.drew) | ((with_reducible apply Own.set_at); (focus (show _ ≤ _; omega))))); have hG := hF; clear hF; clear hO; intro hO; refine own_callO hO (fun hW => sameInts_same _ _ K (inC P) _ (SlAt.of_row hW.2.1.1) (SlAt.of_row hW.1.1) HAI.out) ?_; clear hO; intro w1 hO; (try simp only [World.size_alloc1, World.size_drew, Nat.reduceAdd] at hO); (try simp only [upd, updI, List.map_cons, List.map_nil, eq_self, if_true, if_false, reduceIte, Nat.add_eq_left, Nat.left_eq_add, Nat.reduceEqDiff, List.set_cons_zero, List.set_cons_succ, hG] at hO); clear hG; have hF := hO; (try simp only [Own, Item.Holds, apartI, CellsAt, Nat.reduceAdd, Nat.zero_add, List.mem_cons, List.not_mem_nil, or_false, forall_eq_or_imp, forall_eq, ne_eq, false_imp_iff, implies_true, and_true] at hF)); replace hO := hO.drop; clear hF; have hF := hO; (try simp only [Own, Item.Holds, apartI, CellsAt, Nat.reduceAdd, Nat.zero_add, List.mem_cons, List.not_mem_nil, or_false, forall_eq_or_imp, forall_eq, ne_eq, false_imp_iff, implies_true, and_true] at hF)) | (at_builtin; clear hF; have hO2 := hO.allocRow (e := 25) (cur := #[]) (k := 0) (cap := 0) 3 (by omega) (by unfold maxLen; omega) rfl; clear hO; refine wpList_append_slice rfl _ _ 30 rfl 25 i0 (.agg #[.int .i64 0, .int .i64 0, .slice none 0 0]) 3 40 Tryd.underlying30 hi hz0 hz1 hz2 rfl (by decide) rfl rfl hO2 (HQA.out _ hO2.base) HXA.out (by unfold maxLen; omega) (by omega) ?_; clear hO2 HQA; intro v' w3 hO; simp only [Nat.zero_mul, List.take_nil, List.nil_append, Nat.zero_add] at hO; have hF := hO; (try simp only [Own, Item.Holds, apartI, CellsAt, Nat.reduceAdd, Nat.zero_add, List.mem_cons, List.not_mem_nil, or_false, forall_eq_or_imp, forall_eq, ne_eq, false_imp_iff, implies_true, and_true] at hF)) | (at_builtin; clear hF; refine wpList_append_slice rfl _ _ 30 rfl 25 i0 (.agg #[.int .i64 0, .int .i64 0, .slice none 0 0]) 3 40 Tryd.underlying30 hi hz0 hz1 hz2 rfl (by decide) rfl rfl hO (HQB.out _ hO.base) HXB.out (by unfold maxLen; omega) (by omega) ?_; clear hO HQB; intro vb w3 hO; have hF := hO; (try simp only [Own, Item.Holds, apartI, CellsAt, Nat.reduceAdd, Nat.zero_add, List.mem_cons, List.not_mem_nil, or_false, forall_eq_or_imp, forall_eq, ne_eq, false_imp_iff, implies_true, and_true] at hF)))
      cases o
      · go_wp2_with (go_at_call 15; apply own_at hO; (repeat (first | (with_reducible exact hO) | (with_reducible apply Own.alloc) | (with_reducible apply Own.drew) | ((with_reducible apply Own.set_at); (focus (show _ ≤ _; omega))))); have hG := hF; clear hF; clear hO; intro hO; refine own_call hO (fun hB => HVB.out _ _ (HBO.out _ _ hB (SlAt.of_row hO.1.1))) ?_; clear hO; intro w1 hO; (try simp only [World.size_alloc1, World.size_drew, Nat.reduceAdd] at hO); (try simp only [upd, updI, List.map_cons, List.map_nil, eq_self, if_true, if_false, reduceIte, Nat.add_eq_left, Nat.left_eq_add, Nat.reduceEqDiff, List.set_cons_zero, List.set_cons_succ, hG] at hO); clear hG; have hF := hO; (try simp only [Own, Item.Holds, apartI, CellsAt, Nat.reduceAdd, Nat.zero_add, List.mem_cons, List.not_mem_nil, or_false, forall_eq_or_imp, forall_eq, ne_eq, false_imp_iff, implies_true, and_true] at hF))
        go_wp2_with (go_at_call 12; apply own_at hO; (repeat (first | (with_reducible exact hO) | (with_reducible apply Own.alloc) | (with_reducible apply Own.drew) | ((with_reducible apply Own.set_at); (focus (show _ ≤ _; omega))))); have hG := hF; clear hF; clear hO; intro hO; refine own_call hO (fun hB => alive_any _ (HT.out.below hB)) ?_; clear hO; intro w1 hO; (try simp only [World.size_alloc1, World.size_drew, Nat.reduceAdd] at hO); (try simp only [upd, updI, List.map_cons, List.map_nil, eq_self, if_true, if_false, reduceIte, Nat.add_eq_left, Nat.left_eq_add, Nat.reduceEqDiff, List.set_cons_zero, List.set_cons_succ, hG] at hO); clear hG; have hF := hO; (try simp only [Own, Item.Holds, apartI, CellsAt, Nat.reduceAdd, Nat.zero_add, List.mem_cons, List.not_mem_nil, or_false, forall_eq_or_imp, forall_eq, ne_eq, false_imp_iff, implies_true, and_true] at hF))
        go_ret
        exact ⟨rfl, btr HB0.out (Own.base (by (repeat (first | (with_reducible exact hO) | (with_reducible apply Own.alloc) | (with_reducible apply Own.drew) | ((with_reducible apply Own.set_at); (focus (show _ ≤ _; omega)))))))⟩
      · go_wp2_with (go_at_call 15; apply own_at hO; (repeat (first | (with_reducible exact hO) | (with_reducible apply Own.alloc) | (with_reducible apply Own.drew) | ((with_reducible apply Own.set_at); (focus (show _ ≤ _; omega))))); have hG := hF; clear hF; clear hO; intro hO; refine own_call hO (fun hB => HVB.out _ _ (HBO.out _ _ hB (SlAt.of_row hO.1.1))) ?_; clear hO; intro w1 hO; (try simp only [World.size_alloc1, World.size_drew, Nat.reduceAdd] at hO); (try simp only [upd, updI, List.map_cons, List.map_nil, eq_self, if_true, if_false, reduceIte, Nat.add_eq_left, Nat.left_eq_add, Nat.reduceEqDiff, List.set_cons_zero, List.set_cons_succ, hG] at hO); clear hG; have hF := hO; (try simp only [Own, Item.Holds, apartI, CellsAt, Nat.reduceAdd, Nat.zero_add, List.mem_cons, List.not_mem_nil, or_false, forall_eq_or_imp, forall_eq, ne_eq, false_imp_iff, implies_true, and_true] at hF))
        obtain ⟨e1, e2, e3, e4, nb, nb2⟩ := HJ.out (by simp)
        rw [e3] at HW
        rw [e4] at HW2
        rw [e2] at HWB
        rw [e1] at HPB
        obtain ⟨N, hN⟩ : ∃ N, wrN l = N := ⟨_, rfl⟩
        obtain ⟨N2, hN2⟩ : ∃ N2, wrN l2 = N2 := ⟨_, rfl⟩
        rw [hN] at HW HWB HPB nb
        rw [hN2] at HW2 HWB nb2
        clear e1 e2 e3 e4 HJ hN hN2
        go_wp2_with (go_at_call 17; apply own_at hO; (repeat (first | (with_reducible exact hO) | (with_reducible apply Own.alloc) | (with_reducible apply Own.drew) | ((with_reducible apply Own.set_at); (focus (show _ ≤ _; omega))))); have hG := hF; clear hF; clear hO; intro hO; refine own_call hO (fun hB => HW.out _ hB) ?_; clear hO; intro w1 hO; (try simp only [World.size_alloc1, World.size_drew, Nat.reduceAdd] at hO); (try simp only [upd, updI, List.map_cons, List.map_nil, eq_self, if_true, if_false, reduceIte, Nat.add_eq_left, Nat.left_eq_add, Nat.reduceEqDiff, List.set_cons_zero, List.set_cons_succ, hG] at hO); clear hG; have hF := hO; (try simp only [Own, Item.Holds, apartI, CellsAt, Nat.reduceAdd, Nat.zero_add, List.mem_cons, List.not_mem_nil, or_false, forall_eq_or_imp, forall_eq, ne_eq, false_imp_iff, implies_true, and_true] at hF))
        go_wp2_with (first | (go_at_call 19; apply own_at hO; (repeat (first | (with_reducible exact hO) | (with_reducible apply Own.alloc) | (with_reducible apply Own.drew) | ((with_reducible apply Own.set_at); (focus (show _ ≤ _; omega))))); have hG := hF; clear hF; clear hO; intro hO; refine own_call_row hO (fun hB => HI2.out _ hB) ?_; clear hO; intro v w1 hO; (try simp only [World.size_alloc1, World.size_drew, Nat.reduceAdd] at hO); (try simp only [upd, updI, List.map_cons, List.map_nil, eq_self, if_true, if_false, reduceIte, Nat.add_eq_left, Nat.left_eq_add, Nat.reduceEqDiff, List.set_cons_zero, List.set_cons_succ, hG] at hO); clear hG; have hF := hO; (try simp only [Own, Item.Holds, apartI, CellsAt, Nat.reduceAdd, Nat.zero_add, List.mem_cons, List.not_mem_nil, or_false, forall_eq_or_imp, forall_eq, ne_eq, false_imp_iff, implies_true, and_true] at hF)) | (at_builtin; clear hF; have hs2 := SlAt.of_row hO.2.2.1.1; have hO2 := hO.allocRow (e := 3) (cur := #[]) (k := 0) (cap := 0) 1 (by omega) (by unfold maxLen; omega) rfl; clear hO; refine wpList_append_slice rfl _ _ 23 rfl 3 j0 (.int .i64 0) 1 8 Tryd.underlying23 gi gz0 gz1 gz2 rfl (by decide) rfl rfl hO2 (hs2.below (below1 _)) (fun u hu => by obtain ⟨z, rfl⟩ := List.mem_map.1 hu |>.imp fun z h => h.2.symm; rfl) (by unfold maxLen; omega) (by omega) ?_; clear hO2 hs2; intro v' w3 hO; simp only [Nat.zero_mul, List.take_nil, List.nil_append, Nat.zero_add] at hO; have hF := hO; (try simp only [Own, Item.Holds, apartI, CellsAt, Nat.reduceAdd, Nat.zero_add, List.mem_cons, List.not_mem_nil, or_false, forall_eq_or_imp, forall_eq, ne_eq, false_imp_iff, implies_true, and_true] at hF)))
        obtain ⟨A4, cp4, hv4⟩ := (SlAt.of_row hO.2.1.1).form
        subst hv4
        have HKL := hid (show P2.length = K2 from HKK.out.2)
        clear hF
        replace hO := hO.sub (.cons_cons _ (.cons_cons _ (.cons_cons _ (.cons _ .slnil))))
        go_loopw [11, 12] (fun u t wr => ∃ k : Nat, k ≤ K2 ∧ t = .int .i64 k ∧ Own wd.heap.size (Below wd.heap.size wd) wr [.row 3 1 u (K + k) (inC (P ++ (P2.take k).map (· + N))), .row 3 1 (.slice A4 K2 cp4) K2 (inC P2), .row 25 3 vb (m + m') (scC l ea ++ scC l2 eb)]) (fun _ t _ => K2 - (intOf t).toNat)
        case atStart => exact ⟨0, by omega, rfl, by simpa using hO⟩
        case round =>
          clear hO
          obtain ⟨k, hk, rfl, hO⟩ := hrel
          have hF := hO; (try simp only [Own, Item.Holds, apartI, CellsAt, Nat.reduceAdd, Nat.zero_add, List.mem_cons, List.not_mem_nil, or_false, forall_eq_or_imp, forall_eq, ne_eq, false_imp_iff, implies_true, and_true] at hF)
          by_cases hend : k = K2
          · subst hend
            rw [show P2.take k = P2 by rw [← HKL.out, List.take_length]] at hO
            have HPL := hid (show (P ++ P2.map (· + N)).length = K + k by rw [List.length_append, List.length_map, HKK.out.1, HKK.out.2])
            have wN : IntKind.i64.wrap (N + N2) = N + N2 := IntWalk.i64_in _ (by omega)
            clear hF
            have hF := hO; (try simp only [Own, Item.Holds, apartI, CellsAt, Nat.reduceAdd, Nat.zero_add, List.mem_cons, List.not_mem_nil, or_false, forall_eq_or_imp, forall_eq, ne_eq, false_imp_iff, implies_true, and_true] at hF)
            go_wp2_with (go_at_call 17; apply own_at hO; (repeat (first | (with_reducible exact hO) | (with_reducible apply Own.alloc) | (with_reducible apply Own.drew) | ((with_reducible apply Own.set_at); (focus (show _ ≤ _; omega))))); have hG := hF; clear hF; clear hO; intro hO; refine own_call hO (fun hB => HWB.out _ _ (HBO.out _ _ hB (SlAt.of_row hO.2.2.1.1))) ?_; clear hO; intro w1 hO; (try simp only [World.size_alloc1, World.size_drew, Nat.reduceAdd] at hO); (try simp only [upd, updI, List.map_cons, List.map_nil, eq_self, if_true, if_false, reduceIte, Nat.add_eq_left, Nat.left_eq_add, Nat.reduceEqDiff, List.set_cons_zero, List.set_cons_succ, hG] at hO); clear hG; have hF := hO; (try simp only [Own, Item.Holds, apartI, CellsAt, Nat.reduceAdd, Nat.zero_add, List.mem_cons, List.not_mem_nil, or_false, forall_eq_or_imp, forall_eq, ne_eq, false_imp_iff, implies_true, and_true] at hF))
            go_wp2_with (go_at_call 17; apply own_at hO; (repeat (first | (with_reducible exact hO) | (with_reducible apply Own.alloc) | (with_reducible apply Own.drew) | ((with_reducible apply Own.set_at); (focus (show _ ≤ _; omega))))); have hG := hF; clear hF; clear hO; intro hO; refine own_call hO (fun hB => HW2.out _ hB) ?_; clear hO; intro w1 hO; (try simp only [World.size_alloc1, World.size_drew, Nat.reduceAdd] at hO); (try simp only [upd, updI, List.map_cons, List.map_nil, eq_self, if_true, if_false, reduceIte, Nat.add_eq_left, Nat.left_eq_add, Nat.reduceEqDiff, List.set_cons_zero, List.set_cons_succ, hG] at hO); clear hG; have hF := hO; (try simp only [Own, Item.Holds, apartI, CellsAt, Nat.reduceAdd, Nat.zero_add, List.mem_cons, List.not_mem_nil, or_false, forall_eq_or_imp, forall_eq, ne_eq, false_imp_iff, implies_true, and_true] at hF))
            rw [HPL.out] at HPB
            go_wp2_with (go_at_call 19; apply own_at hO; (repeat (first | (with_reducible exact hO) | (with_reducible apply Own.alloc) | (with_reducible apply Own.drew) | ((with_reducible apply Own.set_at); (focus (show _ ≤ _; omega))))); have hG := hF; clear hF; clear hO; intro hO; refine own_call_row hO (fun hB => HPB.out _ _ (HBO.out _ _ hB (SlAt.of_row hO.2.2.1.1))) ?_; clear hO; intro v w1 hO; (try simp only [World.size_alloc1, World.size_drew, Nat.reduceAdd] at hO); (try simp only [upd, updI, List.map_cons, List.map_nil, eq_self, if_true, if_false, reduceIte, Nat.add_eq_left, Nat.left_eq_add, Nat.reduceEqDiff, List.set_cons_zero, List.set_cons_succ, hG] at hO); clear hG; have hF := hO; (try simp only [Own, Item.Holds, apartI, CellsAt, Nat.reduceAdd, Nat.zero_add, List.mem_cons, List.not_mem_nil, or_false, forall_eq_or_imp, forall_eq, ne_eq, false_imp_iff, implies_true, and_true] at hF))
            go_wp2_with (go_at_call 21; apply own_at hO; (repeat (first | (with_reducible exact hO) | (with_reducible apply Own.alloc) | (with_reducible apply Own.drew) | ((with_reducible apply Own.set_at); (focus (show _ ≤ _; omega))))); have hG := hF; clear hF; clear hO; intro hO; refine own_callO hO (fun hW => sameInts_same _ _ (K + k) (inC (P ++ P2.map (· + N))) _ (SlAt.of_row hW.1.1) (SlAt.of_row hW.2.1.1) (allInt_C _)) ?_; clear hO; intro w1 hO; (try simp only [World.size_alloc1, World.size_drew, Nat.reduceAdd] at hO); (try simp only [upd, updI, List.map_cons, List.map_nil, eq_self, if_true, if_false, reduceIte, Nat.add_eq_left, Nat.left_eq_add, Nat.reduceEqDiff, List.set_cons_zero, List.set_cons_succ, hG] at hO); clear hG; have hF := hO; (try simp only [Own, Item.Holds, apartI, CellsAt, Nat.reduceAdd, Nat.zero_add, List.mem_cons, List.not_mem_nil, or_false, forall_eq_or_imp, forall_eq, ne_eq, false_imp_iff, implies_true, and_true] at hF))
            go_ret
            exact ⟨rfl, btr HB0.out (Own.base (by (repeat (first | (with_reducible exact hO) | (with_reducible apply Own.alloc) | (with_reducible apply Own.drew) | ((with_reducible apply Own.set_at); (focus (show _ ≤ _; omega)))))))⟩
          · have hlt : k < K2 := by omega
            have hlt2 : (k : Int) < K2 := by omega
            obtain ⟨q, cp, hq, q1, q2⟩ := hO.2.row_open (by omega)
            cases hq
            unfold maxLen at q2
            obtain ⟨y, hy⟩ : ∃ y, P2[k]? = some y := ⟨_, List.getElem?_eq_getElem (by have := HKL.out; omega)⟩
            have g0 := hO.2.row_cell (i := k) (u := .int .i64 y) (by rw [List.getElem?_map, hy]; rfl)
            have HU := hid (get_up hy)
            obtain ⟨y0, y1⟩ := HY2.out y (List.mem_of_getElem? hy)
            obtain ⟨i0, hi, hz0, hz1, hz2⟩ := info_parts infoI7
            clear hend hk hy
            go_wp2_with (at_builtin; apply own_list hO; (repeat (first | (with_reducible exact hO) | (with_reducible apply Own.alloc) | (with_reducible apply Own.drew) | ((with_reducible apply Own.set_at); (focus (show _ ≤ _; omega))))); have hG := hF; clear hF; clear hO; intro hO; (try simp only [World.size_alloc1, World.size_drew, Nat.reduceAdd] at hO); (try simp only [upd, updI, List.map_cons, List.map_nil, eq_self, if_true, if_false, reduceIte, Nat.add_eq_left, Nat.left_eq_add, Nat.reduceEqDiff, List.set_cons_zero, List.set_cons_succ, hG] at hO); clear hG; (try simp only [World.size_setCell] at hO); refine wpList_append_item rfl _ _ 23 rfl 3 i0 (.int .i64 0) 1 8 Tryd.underlying23 hi hz0 hz1 hz2 rfl (by decide) rfl rfl hO rfl one1 (by unfold maxLen; omega) (by omega) ?_; clear hO; intro v' w2 hO _; have hF := hO; (try simp only [Own, Item.Holds, apartI, CellsAt, Nat.reduceAdd, Nat.zero_add, List.mem_cons, List.not_mem_nil, or_false, forall_eq_or_imp, forall_eq, ne_eq, false_imp_iff, implies_true, and_true] at hF))
            go_roundw
            case rel => exact ⟨k + 1, by omega, by go_num, by rw [HU.out, List.map_append, List.map_singleton, ← List.append_assoc, ← inC_up, ← Nat.add_assoc]; exact hO⟩
            case measure => simp [intOf]; omega
    · have hl' : (n : Int) ≤ 1048576 := by omega
      have hl2' : 1048576 < (n2 : Int) := by omega
      go_enter Tryd.func8, Tryd.ntmps8
      go_wp2
      go_ret
      exact ⟨rfl, Below.refl _ _⟩
  · have hl' : 1048576 < (n : Int) := by omega
    go_enter Tryd.func8, Tryd.ntmps8
    go_wp2
    go_ret
    exact ⟨rfl, Below.refl _ _⟩
end Go.Proofs.YtpfefbpmchigeaaDoor
