/- Chapter 7 in the program: the list of jumps; the order in which bars are played; unfolded bars. -/
import Derived.Test.YtpfefbpmchigeaaDoorWalks7J
import Derived.Test.YtpfefbpmchigeaaDoorWalks7U
namespace Go.Proofs.YtpfefbpmchigeaaDoor
set_option linter.unusedSimpArgs false
set_option linter.unusedVariables false
open Go.RowKit

theorem jmL_take_len {l : List Sec} (hv : ssB l = true) (k : Nat) : (jmL 0 (l.take k)).length ≤ 64 := by
  have h := ssB_iff.1 (ssB_take hv k)
  have := jmL_len 0 h.1
  omega

set_option maxRecDepth 20000 in
set_option maxHeartbeats 8000000 in
theorem joI_any (va : Value) (l : List Sec) (w : World) (ha : SecsAt w va l) (hv : ssB l = true) :
    Calls Tryd.prog 34 #[va] w (RowOut 56 2 (jmL 0 l).length (jpC (jmL 0 l)) w) := by
  have hO := Own.start w
  have hF := True.intro
  obtain ⟨i0, hi, hz0, hz1, hz2⟩ := info_parts infoJ7
  obtain ⟨A, c, rfl, hA⟩ := ha.open
  obtain ⟨n, hnl⟩ : ∃ n, l.length = n := ⟨_, rfl⟩
  have HN := hid hnl
  have HVO := hid hv
  have h8 : n ≤ 8 := by have := (ssB_iff.1 hv).2; omega
  obtain ⟨J, hJ⟩ : ∃ J, jmL 0 l = J := ⟨_, rfl⟩
  have HJ := hid hJ
  rw [hnl] at hA
  rw [hnl, hJ]
  clear ha hv hnl hJ
  go_enter Tryd.func34, Tryd.ntmps34
  go_wp2_with fail
  replace hO := hO.nilRow 56 2
  go_loopw [3, 4, 9] (fun o z t wr => ∃ k : Nat, k ≤ n ∧ t = .int .i64 k ∧ z = .int .i64 (wrN (l.take k)) ∧ Own w.heap.size (Below w.heap.size w) wr [.row 56 2 o (jmL 0 (l.take k)).length (jpC (jmL 0 (l.take k)))]) (fun _ _ t _ => n - (intOf t).toNat)
  case atStart => exact ⟨0, by omega, rfl, rfl, hO⟩
  case round =>
    clear hO hF
    obtain ⟨k, hk, rfl, rfl, hO⟩ := hrel
    have hF := hO; (try simp only [Own, Item.Holds, apartI, CellsAt, Nat.reduceAdd, Nat.zero_add, List.mem_cons, List.not_mem_nil, or_false, forall_eq_or_imp, forall_eq, ne_eq, false_imp_iff, implies_true, and_true] at hF)
    by_cases hend : k = n
    · subst hend
      rw [show jmL 0 (l.take k) = J by rw [← HJ.out, ← HN.out, List.take_length]] at hO
      go_wp2_with fail
      go_ret
      exact RowOut.mk hO
    · have hlt : k < n := by omega
      have hlt2 : (k : Int) < n := by omega
      obtain ⟨b', off, rfl, hc1, hc2, hb, hcell⟩ := hA (by omega)
      obtain ⟨s, hs⟩ : ∃ s, l[k]? = some s := ⟨_, List.getElem?_eq_getElem (by have := HN.out; omega)⟩
      obtain ⟨ev, hev, d0, d1, d2⟩ := hcell k s hs
      have hse := ss_at HVO.out hs
      have sb := ss_take HVO.out k
      have HU := hid (wrN_take_up hs)
      have HP := hid (jmL_up hs)
      have rl := jmL_take_len HVO.out k
      have ul := jmS_len hse (wrN (l.take k))
      have hw := wrS_pos hse
      have hw2 := (sec_len hse 0 0).2.2
      have HW := hid (wbI_is hev hse)
      have HM := hid (jmI_is hev hse sb.1 (by omega))
      obtain ⟨A2, c2, rfl, _⟩ := hev.open (by have := (se_take hse 0).2.2; omega)
      have g0 := ((bcell hO.base).1 b' (off + k * 3) hb).trans d0
      have g1 := ((bcell hO.base).1 b' (off + k * 3 + 1) hb).trans d1
      have g2 := ((bcell hO.base).1 b' (off + k * 3 + 2) hb).trans d2
      obtain ⟨S, hS⟩ : ∃ S, wrN (l.take k) = S := ⟨_, rfl⟩
      obtain ⟨R, hR⟩ : ∃ R, jmL 0 (l.take k) = R := ⟨_, rfl⟩
      rw [hS] at sb HU HP HM ul
      rw [hR] at HP hO rl
      rw [hS]
      obtain ⟨V, hV⟩ : ∃ V, jmS S s = V := ⟨_, rfl⟩
      rw [hV] at HP HM ul
      obtain ⟨m, hm⟩ : ∃ m, V.length = m := ⟨_, rfl⟩
      rw [hm] at HM ul
      have HK := hid (And.intro hk hlt)
      have HMM := hid hm
      obtain ⟨z, hz⟩ : ∃ z, wrS s = z := ⟨_, rfl⟩
      rw [hz] at HU HW hw hw2
      have ol := jpC_ints V
      clear hend hs hcell hev d0 d1 d2 hse hS hR hV hz hm hF hA hk hlt
      have hF := hO; (try simp only [Own, Item.Holds, apartI, CellsAt, Nat.reduceAdd, Nat.zero_add, List.mem_cons, List.not_mem_nil, or_false, forall_eq_or_imp, forall_eq, ne_eq, false_imp_iff, implies_true, and_true] at hF)
      go_wp2_with (first | (go_at_call 41; apply own_at hO; (repeat (first | (with_reducible exact hO) | (with_reducible apply Own.alloc) | (with_reducible apply Own.drew) | ((with_reducible apply Own.set_at); (focus (show _ ≤ _; omega))))); have hG := hF; clear hF; clear hO; intro hO; refine own_call_row hO (fun hB => HM.out _ hB) ?_; clear hO; intro v w1 hO; (try simp only [World.size_alloc1, World.size_drew, Nat.reduceAdd] at hO); (try simp only [upd, updI, List.map_cons, List.map_nil, eq_self, if_true, if_false, reduceIte, Nat.add_eq_left, Nat.left_eq_add, Nat.reduceEqDiff, List.set_cons_zero, List.set_cons_succ, hG] at hO); clear hG; have hF := hO; (try simp only [Own, Item.Holds, apartI, CellsAt, Nat.reduceAdd, Nat.zero_add, List.mem_cons, List.not_mem_nil, or_false, forall_eq_or_imp, forall_eq, ne_eq, false_imp_iff, implies_true, and_true] at hF)) | (at_builtin; have hs2 := SlAt.of_row hO.1.1; replace hO := hO.perm (((List.Perm.swap _ _ _).cons _).trans (List.Perm.swap _ _ _)); refine wpList_append_slice rfl _ _ 53 rfl 56 i0 (.agg #[.int .i64 0, .int .i64 0]) 2 16 Tryd.underlying53 hi hz0 hz1 hz2 rfl (by decide) rfl rfl hO hs2 ol (by unfold maxLen; omega) (by omega) ?_; clear hO hF hs2; intro v' w3 hO; have hF := hO; (try simp only [Own, Item.Holds, apartI, CellsAt, Nat.reduceAdd, Nat.zero_add, List.mem_cons, List.not_mem_nil, or_false, forall_eq_or_imp, forall_eq, ne_eq, false_imp_iff, implies_true, and_true] at hF)) | (go_at_call 33; apply own_at hO; (repeat (first | (with_reducible exact hO) | (with_reducible apply Own.alloc) | (with_reducible apply Own.drew) | ((with_reducible apply Own.set_at); (focus (show _ ≤ _; omega))))); have hG := hF; clear hF; clear hO; intro hO; refine own_call hO (fun hB => HW.out _ hB) ?_; clear hO; intro w1 hO; (try simp only [World.size_alloc1, World.size_drew, Nat.reduceAdd] at hO); (try simp only [upd, updI, List.map_cons, List.map_nil, eq_self, if_true, if_false, reduceIte, Nat.add_eq_left, Nat.left_eq_add, Nat.reduceEqDiff, List.set_cons_zero, List.set_cons_succ, hG] at hO); clear hG; have hF := hO; (try simp only [Own, Item.Holds, apartI, CellsAt, Nat.reduceAdd, Nat.zero_add, List.mem_cons, List.not_mem_nil, or_false, forall_eq_or_imp, forall_eq, ne_eq, false_imp_iff, implies_true, and_true] at hF)))
      go_roundw
      case rel => exact ⟨k + 1, by have := HK.out; omega, by go_num, by rw [HU.out], by rw [HP.out, List.length_append, jpC_append, HMM.out]; exact hO.sub (.cons_cons _ (List.nil_sublist _))⟩
      case measure => have := HK.out; simp [intOf]; omega
theorem joI_is {va : Value} {l : List Sec} {w : World} {J : List Jp} (ha : SecsAt w va l) (hv : ssB l = true) (h : jmL 0 l = J) (W : World) (hW : Below w.heap.size w W) :
    Calls Tryd.prog 34 #[va] W (RowOut 56 2 J.length (jpC J) W) := by
  subst h
  exact joI_any va l W (ha.below hW) hv

theorem jpF_up {J : List Jp} {k : Nat} {j : Jp} (h : J[k]? = some j) : jpF (J.take (k + 1)) = jpF (J.take k) ++ rg j.1 j.2 := by
  rw [get_up h, jpF_append]; simp [jpF]
theorem jpF_take_len (J : List Jp) (k : Nat) : (jpF (J.take k)).length ≤ (jpF J).length := by
  have := congrArg List.length (jpF_append (J.take k) (J.drop k))
  rw [List.take_append_drop, List.length_append] at this
  omega

set_option maxRecDepth 20000 in
set_option maxHeartbeats 8000000 in
theorem poI_any (va : Value) (l : List Sec) (w : World) (ha : SecsAt w va l) (hn : l.length ≤ 1048576) (hle : ∀ s ∈ l, s.e.length ≤ 1048576) :
    Calls Tryd.prog 19 #[va] w (RowOut 3 1 (poL l).length (inC (poL l)) w) := by
  have hO := Own.start w
  have hF := True.intro
  obtain ⟨i0, hi, hz0, hz1, hz2⟩ := info_parts infoI7
  obtain ⟨A, c, rfl, _⟩ := ha.open
  cases hv : ssB l
  · have HE := hid (poL_no hv)
    have HV := hid (ssI_is ha hn hle hv)
    rw [HE.out]
    clear ha hle hv
    go_enter Tryd.func19, Tryd.ntmps19
    go_wp2_with (go_at_call 14; apply own_at hO; (repeat (first | (with_reducible exact hO) | (with_reducible apply Own.alloc) | (with_reducible apply Own.drew) | ((with_reducible apply Own.set_at); (focus (show _ ≤ _; omega))))); have hG := hF; clear hF; clear hO; intro hO; refine own_call hO (fun hB => HV.out _ hB) ?_; clear hO; intro w1 hO; (try simp only [World.size_alloc1, World.size_drew, Nat.reduceAdd] at hO); (try simp only [upd, updI, List.map_cons, List.map_nil, eq_self, if_true, if_false, reduceIte, Nat.add_eq_left, Nat.left_eq_add, Nat.reduceEqDiff, List.set_cons_zero, List.set_cons_succ, hG] at hO); clear hG; have hF := hO; (try simp only [Own, Item.Holds, apartI, CellsAt, Nat.reduceAdd, Nat.zero_add, List.mem_cons, List.not_mem_nil, or_false, forall_eq_or_imp, forall_eq, ne_eq, false_imp_iff, implies_true, and_true] at hF))
    replace hO := hO.nilRow 3 1
    go_ret
    exact RowOut.mk hO
  · have HV := hid (ssI_is ha hn hle hv)
    obtain ⟨J, hJ⟩ : ∃ J, jmL 0 l = J := ⟨_, rfl⟩
    have HJM := hid (fun j (hj : j ∈ J) => jmL_mem (ssB_iff.1 hv).1 (hJ ▸ hj))
    have HM := hid (joI_is ha hv hJ)
    have HE := hid (show poL l = jpF J by rw [← hJ, jpF_L, poL_yes hv])
    have pl := (po_len hv).2.1
    have wb := (po_len hv).2.2
    have fl : (jpF J).length ≤ 768 := by rw [← HE.out, poL_yes hv]; omega
    obtain ⟨P, hP⟩ : ∃ P, poL l = P := ⟨_, rfl⟩
    rw [hP] at HE
    rw [hP]
    obtain ⟨N, hN⟩ : ∃ N, J.length = N := ⟨_, rfl⟩
    have HN := hid hN
    have n64 : N ≤ 64 := by have := jmL_take_len hv l.length; rw [List.take_length, hJ] at this; omega
    rw [hN] at HM
    obtain ⟨WN, hWN⟩ : ∃ WN, wrN l = WN := ⟨_, rfl⟩
    rw [hWN] at HJM wb
    clear ha hle hv hJ hP hN pl hWN
    go_enter Tryd.func19, Tryd.ntmps19
    go_wp2_with (first | (go_at_call 14; apply own_at hO; (repeat (first | (with_reducible exact hO) | (with_reducible apply Own.alloc) | (with_reducible apply Own.drew) | ((with_reducible apply Own.set_at); (focus (show _ ≤ _; omega))))); have hG := hF; clear hF; clear hO; intro hO; refine own_call hO (fun hB => HV.out _ hB) ?_; clear hO; intro w1 hO; (try simp only [World.size_alloc1, World.size_drew, Nat.reduceAdd] at hO); (try simp only [upd, updI, List.map_cons, List.map_nil, eq_self, if_true, if_false, reduceIte, Nat.add_eq_left, Nat.left_eq_add, Nat.reduceEqDiff, List.set_cons_zero, List.set_cons_succ, hG] at hO); clear hG; have hF := hO; (try simp only [Own, Item.Holds, apartI, CellsAt, Nat.reduceAdd, Nat.zero_add, List.mem_cons, List.not_mem_nil, or_false, forall_eq_or_imp, forall_eq, ne_eq, false_imp_iff, implies_true, and_true] at hF)) | ((go_at_call 34; apply own_at hO; (repeat (first | (with_reducible exact hO) | (with_reducible apply Own.alloc) | (with_reducible apply Own.drew) | ((with_reducible apply Own.set_at); (focus (show _ ≤ _; omega))))); have hG := hF; clear hF; clear hO; intro hO; refine own_call_row hO (fun hB => HM.out _ hB) ?_; clear hO; intro v w1 hO; (try simp only [World.size_alloc1, World.size_drew, Nat.reduceAdd] at hO); (try simp only [upd, updI, List.map_cons, List.map_nil, eq_self, if_true, if_false, reduceIte, Nat.add_eq_left, Nat.left_eq_add, Nat.reduceEqDiff, List.set_cons_zero, List.set_cons_succ, hG] at hO); clear hG; have hF := hO; (try simp only [Own, Item.Holds, apartI, CellsAt, Nat.reduceAdd, Nat.zero_add, List.mem_cons, List.not_mem_nil, or_false, forall_eq_or_imp, forall_eq, ne_eq, false_imp_iff, implies_true, and_true] at hF)); obtain ⟨A1, cp1, hv1⟩ := (SlAt.of_row hO.1.1).form; subst hv1))
    replace hO := hO.nilRow 3 1
    clear hF
    go_loopw [3, 13] (fun o t wr => ∃ k : Nat, k ≤ N ∧ t = .int .i64 k ∧ Own w.heap.size (Below w.heap.size w) wr [.row 3 1 o (jpF (J.take k)).length (inC (jpF (J.take k))), .row 56 2 (.slice A1 N cp1) N (jpC J)]) (fun _ t _ => N - (intOf t).toNat)
    case atStart => exact ⟨0, by omega, rfl, hO⟩
    case round =>
      clear hO
      obtain ⟨k, hk, rfl, hO⟩ := hrel
      have hF := hO; (try simp only [Own, Item.Holds, apartI, CellsAt, Nat.reduceAdd, Nat.zero_add, List.mem_cons, List.not_mem_nil, or_false, forall_eq_or_imp, forall_eq, ne_eq, false_imp_iff, implies_true, and_true] at hF)
      by_cases hend : k = N
      · subst hend
        rw [show jpF (J.take k) = P by rw [HE.out, ← HN.out, List.take_length]] at hO
        go_wp2_with fail
        go_ret
        exact RowOut.mk hO
      · have hlt : k < N := by omega
        have hlt2 : (k : Int) < N := by omega
        obtain ⟨q, cp, hq, q1, q2⟩ := hO.2.row_open (by omega)
        cases hq
        unfold maxLen at q2
        obtain ⟨⟨j1, j2⟩, hj⟩ : ∃ j, J[k]? = some j := ⟨_, List.getElem?_eq_getElem (by have := HN.out; omega)⟩
        have jb := HJM.out _ (List.mem_of_getElem? hj)
        simp only at jb
        obtain ⟨e0, e1⟩ := jpC_at hj
        have g0 := hO.2.row_cell e0
        have g1 := hO.2.row_cell e1
        have HU := hid (jpF_up hj)
        have fk := jpF_take_len J (k + 1)
        rw [jpF_up hj, List.length_append, rg_len] at fk
        simp only at fk HU
        obtain ⟨R, hR⟩ : ∃ R, jpF (J.take k) = R := ⟨_, rfl⟩
        rw [hR] at HU hO fk
        have HK := hid (And.intro hk hlt)
        have hql := (Item.Holds.lt (x := .row _ _ _ _ _) hO.2.1.1 q rfl).2
        clear hend hk hj e0 e1 hR hlt hF
        have hF := hO; (try simp only [Own, Item.Holds, apartI, CellsAt, Nat.reduceAdd, Nat.zero_add, List.mem_cons, List.not_mem_nil, or_false, forall_eq_or_imp, forall_eq, ne_eq, false_imp_iff, implies_true, and_true] at hF)
        go_wp2_with fail
        (apply own_code hO; (repeat (first | (with_reducible exact hO) | (with_reducible apply Own.alloc) | (with_reducible apply Own.drew) | ((with_reducible apply Own.set_at); (focus (show _ ≤ _; omega))))); have hG := hF; clear hF; clear hO; intro hO; (try simp only [World.size_alloc1, World.size_drew, Nat.reduceAdd] at hO); (try simp only [upd, updI, List.map_cons, List.map_nil, eq_self, if_true, if_false, reduceIte, Nat.add_eq_left, Nat.left_eq_add, Nat.reduceEqDiff, List.set_cons_zero, List.set_cons_succ, hG] at hO); clear hG; have hF := hO; (try simp only [Own, Item.Holds, apartI, CellsAt, Nat.reduceAdd, Nat.zero_add, List.mem_cons, List.not_mem_nil, or_false, forall_eq_or_imp, forall_eq, ne_eq, false_imp_iff, implies_true, and_true] at hF))
        replace hO := hO.perm (List.Perm.swap _ _ _)
        obtain ⟨qb, hqb⟩ : ∃ qb, wr.heap.size = qb := ⟨_, rfl⟩
        rw [hqb] at hO ⊢
        clear hF g0 g1 hql
        go_loopw [3, 19] (fun o t wi => ∃ i : Nat, (i : Int) ≤ j2 ∧ t = .int .i64 i ∧ Own w.heap.size (Below w.heap.size w) wi [.row 3 1 o (R ++ rg j1 i).length (inC (R ++ rg j1 i)), .blk qb [.int .i64 j1, .int .i64 j2], .row 56 2 (.slice (some ⟨q, 0, none⟩) N cp1) N (jpC J)]) (fun _ t _ => (j2 - intOf t).toNat)
        case atStart => exact ⟨0, by omega, rfl, by rw [rg_zero (by omega), List.append_nil]; exact hO⟩
        case round =>
          clear hO
          obtain ⟨i, hi', rfl, hO⟩ := hrel
          have hF := hO; (try simp only [Own, Item.Holds, apartI, CellsAt, Nat.reduceAdd, Nat.zero_add, List.mem_cons, List.not_mem_nil, or_false, forall_eq_or_imp, forall_eq, ne_eq, false_imp_iff, implies_true, and_true] at hF)
          have rl : (R ++ rg j1 i).length ≤ 768 := by rw [List.length_append, rg_len]; omega
          by_cases hie : (i : Int) = j2
          · have i1 : ¬ ((i : Int) < j2) := by omega
            have e1 : R ++ rg j1 i = jpF (J.take (k + 1)) := by rw [HU.out, hie]
            rw [e1] at hO
            clear hie hi' e1 rl hF
            have hF := hO; (try simp only [Own, Item.Holds, apartI, CellsAt, Nat.reduceAdd, Nat.zero_add, List.mem_cons, List.not_mem_nil, or_false, forall_eq_or_imp, forall_eq, ne_eq, false_imp_iff, implies_true, and_true] at hF)
            go_wp2_with fail
            go_roundw
            case rel => exact ⟨k + 1, by have := HK.out; omega, by go_num, hO.sub (.cons_cons _ (.cons _ (.cons_cons _ .slnil)))⟩
            case measure => have := HK.out; simp [intOf]; omega
          · have hil : (i : Int) < j2 := by omega
            have HI := hid (And.intro hi' hil)
            clear hie hi'
            go_wp2_with (at_builtin; apply own_list hO; (repeat (first | (with_reducible exact hO) | (with_reducible apply Own.alloc) | (with_reducible apply Own.drew) | ((with_reducible apply Own.set_at); (focus (show _ ≤ _; omega))))); have hG := hF; clear hF; clear hO; intro hO; (try simp only [World.size_alloc1, World.size_drew, Nat.reduceAdd] at hO); (try simp only [upd, updI, List.map_cons, List.map_nil, eq_self, if_true, if_false, reduceIte, Nat.add_eq_left, Nat.left_eq_add, Nat.reduceEqDiff, List.set_cons_zero, List.set_cons_succ, hG] at hO); clear hG; (try simp only [World.size_setCell] at hO); refine wpList_append_item rfl _ _ 23 rfl 3 i0 (.int .i64 0) 1 8 Tryd.underlying23 hi hz0 hz1 hz2 rfl (by decide) rfl rfl hO rfl one1 (by unfold maxLen; omega) (by omega) ?_; clear hO; intro v' w2 hO _; have hF := hO; (try simp only [Own, Item.Holds, apartI, CellsAt, Nat.reduceAdd, Nat.zero_add, List.mem_cons, List.not_mem_nil, or_false, forall_eq_or_imp, forall_eq, ne_eq, false_imp_iff, implies_true, and_true] at hF))
            go_roundw
            case rel => exact ⟨i + 1, by have := HI.out; omega, by go_num, by push_cast; rw [rg_up, ← List.append_assoc, List.length_append (bs := [j1 + (i : Int)]), ← inC_up]; exact hO⟩
            case measure => have := HI.out; simp [intOf]; omega
theorem poI_is {va : Value} {l : List Sec} {w : World} {o : List Int} (ha : SecsAt w va l) (hn : l.length ≤ 1048576) (hle : ∀ s ∈ l, s.e.length ≤ 1048576) (h : poL l = o) (W : World) (hW : Below w.heap.size w W) :
    Calls Tryd.prog 19 #[va] W (RowOut 3 1 o.length (inC o) W) := by
  subst h
  exact poI_any va l W (ha.below hW) hn hle

set_option maxRecDepth 20000 in
set_option maxHeartbeats 16000000 in
theorem unI_any (va vb : Value) (l : List Sec) (t : List ByteArray) (w : World) (ha : SecsAt w va l) (hb : StrsAt w vb t) (hn : l.length ≤ 1048576) (hle : ∀ s ∈ l, s.e.length ≤ 1048576) (htn : t.length ≤ maxLen) :
    Calls Tryd.prog 24 #[va, vb] w (RowOutB 9 1 (unL l t).length (stC (unL l t)) (unB l t) w) := by
  have hO := Own.start w
  have hF := True.intro
  obtain ⟨i0, hi, hz0, hz1, hz2⟩ := info_parts infoT7
  obtain ⟨A, c, rfl, _⟩ := ha.open
  obtain ⟨A', c', rfl, hA'⟩ := hb.open
  have htn' : (t.length : Int) ≤ 9223372036854775807 := by unfold maxLen at htn; omega
  cases hv : ssB l
  · have HE := hid (show unB l t = false by unfold unB; rw [hv]; rfl)
    have HV := hid (ssI_is ha hn hle hv)
    rw [HE.out, unL_no HE.out]
    clear ha hle hv hA' hb
    go_enter Tryd.func24, Tryd.ntmps24
    go_wp2_with (go_at_call 14; apply own_at hO; (repeat (first | (with_reducible exact hO) | (with_reducible apply Own.alloc) | (with_reducible apply Own.drew) | ((with_reducible apply Own.set_at); (focus (show _ ≤ _; omega))))); have hG := hF; clear hF; clear hO; intro hO; refine own_call hO (fun hB => HV.out _ hB) ?_; clear hO; intro w1 hO; (try simp only [World.size_alloc1, World.size_drew, Nat.reduceAdd] at hO); (try simp only [upd, updI, List.map_cons, List.map_nil, eq_self, if_true, if_false, reduceIte, Nat.add_eq_left, Nat.left_eq_add, Nat.reduceEqDiff, List.set_cons_zero, List.set_cons_succ, hG] at hO); clear hG; have hF := hO; (try simp only [Own, Item.Holds, apartI, CellsAt, Nat.reduceAdd, Nat.zero_add, List.mem_cons, List.not_mem_nil, or_false, forall_eq_or_imp, forall_eq, ne_eq, false_imp_iff, implies_true, and_true] at hF))
    replace hO := hO.nilRow 9 1
    go_ret2
    exact RowOutB.mk hO
  · have HV := hid (ssI_is ha hn hle hv)
    have HVO := hid hv
    have HW := hid (wrI_is ha hn hle (show wrZ l = wrN l by unfold wrZ; rw [if_pos hv]))
    have HP := hid (poI_is ha hn hle (poL_yes hv))
    by_cases hlen : (t.length : Int) = wrN l
    · have HE := hid (show unB l t = true from unB_iff.2 ⟨hv, hlen⟩)
      have HUA := hid (fun k y => un_at (k := k) (y := y) HE.out)
      have HUL := hid (unL_yes HE.out)
      rw [HE.out, HUL.out]
      obtain ⟨m, hm⟩ : ∃ m, t.length = m := ⟨_, rfl⟩
      have HM := hid hm
      have pl := po_len hv
      obtain ⟨O, hO'⟩ : ∃ O, plL 0 l = O := ⟨_, rfl⟩
      rw [hO'] at HP HUA pl
      rw [hO']
      obtain ⟨N, hN⟩ : ∃ N, O.length = N := ⟨_, rfl⟩
      have HN := hid hN
      rw [hN] at HP pl
      rw [hm] at hA' HUA hlen htn'
      rw [hm]
      rw [List.length_map, hN]
      rw [← hlen] at HW
      have n1 : N ≤ 768 := by omega
      obtain ⟨U, hU⟩ : ∃ U, O.map (fun i => t.getD i.toNat ByteArray.empty) = U := ⟨_, rfl⟩
      rw [hU]
      have HUU := hid hU
      have HUN := hid (show U.length = N by rw [← hU, List.length_map, hN])
      clear ha hle hv hb hm hO' hN HUL pl hlen htn hU
      go_enter Tryd.func24, Tryd.ntmps24
      go_wp2_with (first | (go_at_call 14; apply own_at hO; (repeat (first | (with_reducible exact hO) | (with_reducible apply Own.alloc) | (with_reducible apply Own.drew) | ((with_reducible apply Own.set_at); (focus (show _ ≤ _; omega))))); have hG := hF; clear hF; clear hO; intro hO; refine own_call hO (fun hB => HV.out _ hB) ?_; clear hO; intro w1 hO; (try simp only [World.size_alloc1, World.size_drew, Nat.reduceAdd] at hO); (try simp only [upd, updI, List.map_cons, List.map_nil, eq_self, if_true, if_false, reduceIte, Nat.add_eq_left, Nat.left_eq_add, Nat.reduceEqDiff, List.set_cons_zero, List.set_cons_succ, hG] at hO); clear hG; have hF := hO; (try simp only [Own, Item.Holds, apartI, CellsAt, Nat.reduceAdd, Nat.zero_add, List.mem_cons, List.not_mem_nil, or_false, forall_eq_or_imp, forall_eq, ne_eq, false_imp_iff, implies_true, and_true] at hF)) | (go_at_call 17; apply own_at hO; (repeat (first | (with_reducible exact hO) | (with_reducible apply Own.alloc) | (with_reducible apply Own.drew) | ((with_reducible apply Own.set_at); (focus (show _ ≤ _; omega))))); have hG := hF; clear hF; clear hO; intro hO; refine own_call hO (fun hB => HW.out _ hB) ?_; clear hO; intro w1 hO; (try simp only [World.size_alloc1, World.size_drew, Nat.reduceAdd] at hO); (try simp only [upd, updI, List.map_cons, List.map_nil, eq_self, if_true, if_false, reduceIte, Nat.add_eq_left, Nat.left_eq_add, Nat.reduceEqDiff, List.set_cons_zero, List.set_cons_succ, hG] at hO); clear hG; have hF := hO; (try simp only [Own, Item.Holds, apartI, CellsAt, Nat.reduceAdd, Nat.zero_add, List.mem_cons, List.not_mem_nil, or_false, forall_eq_or_imp, forall_eq, ne_eq, false_imp_iff, implies_true, and_true] at hF)) | ((go_at_call 19; apply own_at hO; (repeat (first | (with_reducible exact hO) | (with_reducible apply Own.alloc) | (with_reducible apply Own.drew) | ((with_reducible apply Own.set_at); (focus (show _ ≤ _; omega))))); have hG := hF; clear hF; clear hO; intro hO; refine own_call_row hO (fun hB => HP.out _ hB) ?_; clear hO; intro v w1 hO; (try simp only [World.size_alloc1, World.size_drew, Nat.reduceAdd] at hO); (try simp only [upd, updI, List.map_cons, List.map_nil, eq_self, if_true, if_false, reduceIte, Nat.add_eq_left, Nat.left_eq_add, Nat.reduceEqDiff, List.set_cons_zero, List.set_cons_succ, hG] at hO); clear hG; have hF := hO; (try simp only [Own, Item.Holds, apartI, CellsAt, Nat.reduceAdd, Nat.zero_add, List.mem_cons, List.not_mem_nil, or_false, forall_eq_or_imp, forall_eq, ne_eq, false_imp_iff, implies_true, and_true] at hF)); obtain ⟨A1, cp1, hv1⟩ := (SlAt.of_row hO.1.1).form; subst hv1) | (at_make; go_loud (refine wpList_make_item rfl _ _ 37 rfl 9 i0 (.string ByteArray.empty) 1 16 Tryd.underlying37 hi hz0 hz1 hz2 _ _ _ _ N rfl rfl rfl rfl (by omega) (by unfold maxLen; omega) (by (repeat (first | (with_reducible exact hO) | (with_reducible apply Own.alloc) | (with_reducible apply Own.drew) | ((with_reducible apply Own.set_at); (focus (show _ ≤ _; omega)))))) ?_); clear hO hF; intro q w2 hO; have hF := hO; (try simp only [Own, Item.Holds, apartI, CellsAt, Nat.reduceAdd, Nat.zero_add, List.mem_cons, List.not_mem_nil, or_false, forall_eq_or_imp, forall_eq, ne_eq, false_imp_iff, implies_true, and_true] at hF)))
      rw [madeT N, show List.replicate N ByteArray.empty = mixT U 0 by rw [mixT_zero, HUN.out]] at hO
      clear hF
      go_loopw [27] (fun t' wr => ∃ k : Nat, k ≤ N ∧ t' = .int .i64 k ∧ Own w.heap.size (Below w.heap.size w) wr [.row 9 1 (.slice (some ⟨q, 0, none⟩) N N) N (stC (mixT U k)), .row 3 1 (.slice A1 N cp1) N (inC O)]) (fun t' _ => N - (intOf t').toNat)
      case atStart => exact ⟨0, by omega, rfl, hO⟩
      case round =>
        clear hO
        obtain ⟨k, hk, rfl, hO⟩ := hrel
        have hF := hO; (try simp only [Own, Item.Holds, apartI, CellsAt, Nat.reduceAdd, Nat.zero_add, List.mem_cons, List.not_mem_nil, or_false, forall_eq_or_imp, forall_eq, ne_eq, false_imp_iff, implies_true, and_true] at hF)
        by_cases hend : k = N
        · subst hend
          rw [show mixT U k = U by rw [← HUN.out]; exact mixT_full U] at hO
          go_wp2_with fail
          go_ret2
          exact RowOutB.mk hO
        · have hlt : k < N := by omega
          have hlt2 : (k : Int) < N := by omega
          obtain ⟨q9, cp, hq, q1, q2⟩ := hO.2.row_open (by omega)
          cases hq
          unfold maxLen at q2
          obtain ⟨y, hy⟩ : ∃ y, O[k]? = some y := ⟨_, List.getElem?_eq_getElem (by have := HN.out; omega)⟩
          obtain ⟨y0, y1, hy2⟩ := HUA.out k y hy
          obtain ⟨b, off, rfl, c1, c2, hb2, hcell⟩ := hA' (by omega)
          have g0 := hO.2.row_cell (i := k) (u := .int .i64 y) (by rw [List.getElem?_map, hy]; rfl)
          have g1 := ((bcell hO.base).1 b (off + y.toNat) hb2).trans (hcell _ _ hy2)
          have HUK := hid (show U[k]? = some (t.getD y.toNat ByteArray.empty) by rw [← HUU.out, List.getElem?_map, hy]; rfl)
          have hml := mixT_len U (k := k) (by have := HUN.out; omega)
          obtain ⟨z0, hz0'⟩ : ∃ z0, (stC (mixT U k))[k]? = some z0 := ⟨_, List.getElem?_eq_getElem (by rw [List.length_map, hml]; have := HUN.out; omega)⟩
          have g2 := hO.row_cell hz0'
          have f2 := hO.row_free k
          obtain ⟨z, hz⟩ : ∃ z, t.getD y.toNat ByteArray.empty = z := ⟨_, rfl⟩
          rw [hz] at g1 HUK
          have hO2 := hO.row_set k (.string z)
          rw [mixT_put HUK.out] at hO2
          clear hend hk hy hy2 hcell hz hml hz0' hO hF
          go_wp2_with fail
          go_roundw
          case rel => exact ⟨k + 1, by omega, by go_num, hO2⟩
          case measure => simp [intOf]; omega
    · have HE := hid (show unB l t = false by unfold unB; rw [hv]; simp [hlen])
      rw [HE.out, unL_no HE.out]
      obtain ⟨m, hm⟩ : ∃ m, t.length = m := ⟨_, rfl⟩
      obtain ⟨z, hz⟩ : ∃ z, wrN l = z := ⟨_, rfl⟩
      rw [hm] at hlen htn'
      rw [hz] at HW hlen
      rw [hm]
      have h2 : ¬ ((m : Int) = z) := hlen
      clear ha hle hv hA' hb hm hz hlen HP htn
      go_enter Tryd.func24, Tryd.ntmps24
      go_wp2_with (first | (go_at_call 14; apply own_at hO; (repeat (first | (with_reducible exact hO) | (with_reducible apply Own.alloc) | (with_reducible apply Own.drew) | ((with_reducible apply Own.set_at); (focus (show _ ≤ _; omega))))); have hG := hF; clear hF; clear hO; intro hO; refine own_call hO (fun hB => HV.out _ hB) ?_; clear hO; intro w1 hO; (try simp only [World.size_alloc1, World.size_drew, Nat.reduceAdd] at hO); (try simp only [upd, updI, List.map_cons, List.map_nil, eq_self, if_true, if_false, reduceIte, Nat.add_eq_left, Nat.left_eq_add, Nat.reduceEqDiff, List.set_cons_zero, List.set_cons_succ, hG] at hO); clear hG; have hF := hO; (try simp only [Own, Item.Holds, apartI, CellsAt, Nat.reduceAdd, Nat.zero_add, List.mem_cons, List.not_mem_nil, or_false, forall_eq_or_imp, forall_eq, ne_eq, false_imp_iff, implies_true, and_true] at hF)) | (go_at_call 17; apply own_at hO; (repeat (first | (with_reducible exact hO) | (with_reducible apply Own.alloc) | (with_reducible apply Own.drew) | ((with_reducible apply Own.set_at); (focus (show _ ≤ _; omega))))); have hG := hF; clear hF; clear hO; intro hO; refine own_call hO (fun hB => HW.out _ hB) ?_; clear hO; intro w1 hO; (try simp only [World.size_alloc1, World.size_drew, Nat.reduceAdd] at hO); (try simp only [upd, updI, List.map_cons, List.map_nil, eq_self, if_true, if_false, reduceIte, Nat.add_eq_left, Nat.left_eq_add, Nat.reduceEqDiff, List.set_cons_zero, List.set_cons_succ, hG] at hO); clear hG; have hF := hO; (try simp only [Own, Item.Holds, apartI, CellsAt, Nat.reduceAdd, Nat.zero_add, List.mem_cons, List.not_mem_nil, or_false, forall_eq_or_imp, forall_eq, ne_eq, false_imp_iff, implies_true, and_true] at hF)))
      replace hO := hO.nilRow 9 1
      go_ret2
      exact RowOutB.mk hO
end Go.Proofs.YtpfefbpmchigeaaDoor
