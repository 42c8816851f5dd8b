/- Chapter 7 in the model: the order in which bars are played. -/
import Derived.Test.YtpfefbpmchigeaaDoorWalks7W
import Derived.Test.YtpfefbpmchigeaaDoorPure7c
import Derived.Test.YtpfefbpmchigeaaDoorSecsOwn
namespace Go.Proofs.YtpfefbpmchigeaaDoor
set_option linter.unusedSimpArgs false
set_option linter.unusedVariables false
open Go.RowKit

theorem infoI7 : (Tryd.prog.info? 3).map (fun i => (i.zero, i.size, i.bytes)) = some (some (.int .i64 0), 1, 8) := by kernel_rfl
theorem one1 {x : Int} : ∀ u ∈ [Value.int .i64 x], u.oneCell' = true := by
  intro u hu
  simp at hu
  subst hu
  rfl
theorem inC_up (l : List Int) (x : Int) : inC l ++ [Value.int .i64 x] = inC (l ++ [x]) := by simp
theorem poL_yes {l : List Sec} (h : ssB l = true) : poL l = plL 0 l := by unfold poL; rw [if_pos h]
theorem poL_no {l : List Sec} (h : ssB l = false) : poL l = [] := by unfold poL; rw [h]; rfl

set_option maxRecDepth 20000 in
set_option maxHeartbeats 16000000 in
theorem poS_any (va : Value) (l : List Sec) (w : World) (ha : SecsAt w va l) (hn : l.length ≤ 1048576) (hle : ∀ s ∈ l, s.e.length ≤ 1048576) :
    Calls Tryd.prog 22 #[va] w (RowOut 3 1 (poL l).length (inC (poL l)) w) := by
  have hO := Own.start w
  have hF := True.intro
  obtain ⟨i0, hi, hz0, hz1, hz2⟩ := info_parts infoI7
  obtain ⟨A, c, rfl, hA⟩ := ha.open
  obtain ⟨n, hnl⟩ : ∃ n, l.length = n := ⟨_, rfl⟩
  have HN := hid hnl
  cases hv : ssB l
  · have HE := hid (poL_no hv)
    have HV := hid (ssS_is ha hn hle hv)
    have n0 : 0 < n := by
      cases l with
      | nil => simp [ssB] at hv
      | cons s r => simp at hnl; omega
    have n1 : (0 : Int) < n := by omega
    rw [hnl] at hn HV
    rw [hnl, HE.out]
    clear ha hle hv hA hnl
    go_enter Tryd.func22, Tryd.ntmps22
    go_wp2_with fail
    replace hO := hO.allocRow (e := 3) (cur := #[]) (k := 0) (cap := 0) 1 (by omega) (by unfold maxLen; omega) rfl
    go_loopw [3, 4, 5] (fun o a t wr => t = .int .i64 0 ∧ Own w.heap.size (Below w.heap.size w) wr [.row 3 1 o 0 []]) (fun _ _ _ _ => 0)
    case atStart => exact ⟨rfl, hO⟩
    case round =>
      clear hO
      obtain ⟨rfl, hO⟩ := hrel
      have hF := True.intro
      go_wp2_with (go_at_call 15; apply own_at hO; (repeat (first | (with_reducible exact hO) | (with_reducible apply Own.alloc) | (with_reducible apply Own.drew) | ((with_reducible apply Own.set_at); (focus (show _ ≤ _; omega))))); have hG := hF; clear hF; clear hO; intro hO; refine own_call hO (fun hB => HV.out _ hB) ?_; clear hO; intro w1 hO; (try simp only [World.size_alloc1, World.size_drew, Nat.reduceAdd] at hO); (try simp only [upd, updI, List.map_cons, List.map_nil, eq_self, if_true, if_false, reduceIte, Nat.add_eq_left, Nat.left_eq_add, Nat.reduceEqDiff, List.set_cons_zero, List.set_cons_succ, hG] at hO); clear hG; have hF := hO; (try simp only [Own, Item.Holds, apartI, CellsAt, Nat.reduceAdd, Nat.zero_add, List.mem_cons, List.not_mem_nil, or_false, forall_eq_or_imp, forall_eq, ne_eq, false_imp_iff, implies_true, and_true] at hF))
      go_ret
      exact RowOut.mk hO
  · have HE := hid (poL_yes hv)
    have HV := hid (ssS_is ha hn hle hv)
    have HVO := hid hv
    rw [hnl] at hA hn HV
    rw [hnl]
    clear ha hle hv hnl
    go_enter Tryd.func22, Tryd.ntmps22
    go_wp2_with fail
    replace hO := hO.allocRow (e := 3) (cur := #[]) (k := 0) (cap := 0) 1 (by omega) (by unfold maxLen; omega) rfl
    go_loopw [3, 4, 5] (fun o a t wr => ∃ k : Nat, k ≤ n ∧ t = .int .i64 k ∧ a = .int .i64 (wrN (l.take k)) ∧ Own w.heap.size (Below w.heap.size w) wr [.row 3 1 o (plL 0 (l.take k)).length (inC (plL 0 (l.take k)))]) (fun _ _ t _ => n - (intOf t).toNat)
    case atStart => exact ⟨0, by omega, rfl, rfl, hO⟩
    case round =>
      clear hO
      obtain ⟨k, hk, rfl, rfl, hO⟩ := hrel
      have hF := True.intro
      by_cases hend : k = n
      · subst hend
        have e1 : plL 0 (l.take k) = poL l := by rw [HE.out, ← HN.out, List.take_length]
        rw [e1] at hO
        go_wp2_with fail
        go_ret
        exact RowOut.mk hO
      · have hlt : k < n := by omega
        have hlt2 : (k : Int) < n := by omega
        obtain ⟨b', off, rfl, hc1, hc2, hb, hcell⟩ := hA (by omega)
        obtain ⟨s, hs⟩ : ∃ s, l[k]? = some s := ⟨_, List.getElem?_eq_getElem (by have := HN.out; omega)⟩
        obtain ⟨ev, hev, d0, d1, d2⟩ := hcell k s hs
        have hse := ss_at HVO.out hs
        have hst := se_take hse
        obtain ⟨B, eo, rfl, hB⟩ := hev.open (by have := (hst 0).2.2; omega)
        have sb := ss_take HVO.out k
        have k8 : k ≤ 8 := by have := (ssB_iff.1 HVO.out).2; have := HN.out; omega
        have rl := plL_take_len HVO.out k
        obtain ⟨_, bb, tb, _⟩ := seB_iff.1 hse
        have HU := hid (And.intro (plL_up hs) (wrN_take_up hs))
        have HSE := hid hse
        have HD := hid (And.intro d0 (And.intro d1 (And.intro d2 hb)))
        have HK := hid (And.intro hk hlt)
        obtain ⟨m, hm⟩ : ∃ m, s.e.length = m := ⟨_, rfl⟩
        have HM := hid hm
        have m4 := (hst 0).2.2
        rw [hm] at hB m4 HD
        obtain ⟨S, hS⟩ : ∃ S, wrN (l.take k) = S := ⟨_, rfl⟩
        obtain ⟨R, hR⟩ : ∃ R, plL 0 (l.take k) = R := ⟨_, rfl⟩
        rw [hS] at sb
        rw [hS, hR] at HU
        rw [hR] at hO rl
        rw [hS]
        have HB2 := hid hB
        have r9 : R.length ≤ 768 := by omega
        clear hend hs hcell hev d0 d1 d2 hse hst hS hR hm hA hk hlt hB rl k8
        go_wp2_with ((go_at_call 15; apply own_at hO; (repeat (first | (with_reducible exact hO) | (with_reducible apply Own.alloc) | (with_reducible apply Own.drew) | ((with_reducible apply Own.set_at); (focus (show _ ≤ _; omega))))); have hG := hF; clear hF; clear hO; intro hO; refine own_call hO (fun hB => HV.out _ hB) ?_; clear hO; intro wc hO; (try simp only [World.size_alloc1, World.size_drew, Nat.reduceAdd] at hO); (try simp only [upd, updI, List.map_cons, List.map_nil, eq_self, if_true, if_false, reduceIte, Nat.add_eq_left, Nat.left_eq_add, Nat.reduceEqDiff, List.set_cons_zero, List.set_cons_succ, hG] at hO); clear hG; have hF := hO; (try simp only [Own, Item.Holds, apartI, CellsAt, Nat.reduceAdd, Nat.zero_add, List.mem_cons, List.not_mem_nil, or_false, forall_eq_or_imp, forall_eq, ne_eq, false_imp_iff, implies_true, and_true] at hF)); have g0 := ((bcell hO.base).1 b' (off + k * 3) hb).trans HD.out.1; have g1 := ((bcell hO.base).1 b' (off + k * 3 + 1) hb).trans HD.out.2.1; have g2 := ((bcell hO.base).1 b' (off + k * 3 + 2) hb).trans HD.out.2.2.1)
        (apply own_code hO; (repeat (first | (with_reducible exact hO) | (with_reducible apply Own.alloc) | (with_reducible apply Own.drew) | ((with_reducible apply Own.set_at); (focus (show _ ≤ _; omega))))); have hG := hF; clear hF; clear hO; intro hO; (try simp only [World.size_alloc1, World.size_drew, Nat.reduceAdd] at hO); (try simp only [upd, updI, List.map_cons, List.map_nil, eq_self, if_true, if_false, reduceIte, Nat.add_eq_left, Nat.left_eq_add, Nat.reduceEqDiff, List.set_cons_zero, List.set_cons_succ, hG] at hO); clear hG; have hF := hO; (try simp only [Own, Item.Holds, apartI, CellsAt, Nat.reduceAdd, Nat.zero_add, List.mem_cons, List.not_mem_nil, or_false, forall_eq_or_imp, forall_eq, ne_eq, false_imp_iff, implies_true, and_true] at hF))
        replace hO := Own.perm (List.Perm.swap _ _ _) hO
        obtain ⟨q, hq⟩ : ∃ q, wc.heap.size = q := ⟨_, rfl⟩
        rw [hq] at hO ⊢
        clear hF g0 g1 g2
        go_loopw [3, 7, 8] (fun o z t wi => ∃ i : Nat, (i : Int) ≤ s.t ∧ t = .int .i64 i ∧ z = .int .i64 (S + s.b + sumI ((esO s).take i)) ∧ Own w.heap.size (Below w.heap.size w) wi [.row 3 1 o (R ++ plT S s.b (S + s.b) ((esO s).take i)).length (inC (R ++ plT S s.b (S + s.b) ((esO s).take i))), .blk q [.int .i64 s.b, .int .i64 s.t, .slice B m eo]]) (fun _ _ t _ => (s.t - intOf t).toNat)
        case atStart => exact ⟨0, by omega, rfl, by simp [sumI], by simpa [plT] using hO⟩
        case round =>
          clear hO
          obtain ⟨i, hi', rfl, rfl, hO⟩ := hrel
          have hF := hO; (try simp only [Own, Item.Holds, apartI, CellsAt, Nat.reduceAdd, Nat.zero_add, List.mem_cons, List.not_mem_nil, or_false, forall_eq_or_imp, forall_eq, ne_eq, false_imp_iff, implies_true, and_true] at hF)
          have pl := plT_take_len HSE.out S (S + s.b) i hi'
          by_cases hie : (i : Int) = s.t
          · have hit : (esO s).take i = esO s := by rw [List.take_of_length_le]; have := esO_len HSE.out; omega
            have HIE := hid hie
            rw [hit] at hO
            rw [← HU.out.1] at hO
            have HW := hid (show S + s.b + sumI ((esO s).take i) = wrN (l.take (k + 1)) by rw [hit, HU.out.2, esO_sum]; unfold wrS; omega)
            rw [HW.out]
            clear hit hie
            have i1 : ¬ ((i : Int) < s.t) := by have := HIE.out; omega
            go_wp2_with fail
            go_roundw
            case rel => exact ⟨k + 1, by have := HK.out; omega, by go_num, rfl, hO.perm (List.Perm.refl _) |>.sub (.cons_cons _ (.cons _ .slnil))⟩
            case measure => have := HK.out; simp [intOf]; omega
          · have hil : (i : Int) < s.t := by omega
            obtain ⟨x, hx, hxx, xb⟩ := esO_at HSE.out hil
            have HP := hid (plT_up (at' := S) (b := s.b) (en := S + s.b) hx)
            have HSU := hid (sum_take_up hx)
            obtain ⟨T, hT⟩ : ∃ T, sumI ((esO s).take i) = T := ⟨_, rfl⟩
            obtain ⟨Q, hQ⟩ : ∃ Q, R ++ plT S s.b (S + s.b) ((esO s).take i) = Q := ⟨_, rfl⟩
            have q9 : Q.length ≤ 900 := by rw [← hQ, List.length_append]; omega
            rw [hT] at HP HSU pl
            rw [hQ] at hO
            rw [hT]
            have HQ := hid hQ
            have HI := hid (And.intro hi' hil)
            have HXX := hid hxx
            clear hie hx hT hQ hi' hF hxx
            have hF := hO; (try simp only [Own, Item.Holds, apartI, CellsAt, Nat.reduceAdd, Nat.zero_add, List.mem_cons, List.not_mem_nil, or_false, forall_eq_or_imp, forall_eq, ne_eq, false_imp_iff, implies_true, and_true] at hF)
            go_wp2_with fail
            clear hF
            go_loopw [3, 9] (fun o t wi2 => ∃ j : Nat, (j : Int) ≤ s.b ∧ t = .int .i64 j ∧ Own w.heap.size (Below w.heap.size w) wi2 [.row 3 1 o (Q ++ rg S j).length (inC (Q ++ rg S j)), .blk q [.int .i64 s.b, .int .i64 s.t, .slice B m eo]]) (fun _ t _ => (s.b - intOf t).toNat)
            case atStart => exact ⟨0, by omega, rfl, by rw [rg_zero (by omega), List.append_nil]; exact hO⟩
            case round =>
              clear hO
              obtain ⟨j, hj, rfl, hO⟩ := hrel
              have hF := hO; (try simp only [Own, Item.Holds, apartI, CellsAt, Nat.reduceAdd, Nat.zero_add, List.mem_cons, List.not_mem_nil, or_false, forall_eq_or_imp, forall_eq, ne_eq, false_imp_iff, implies_true, and_true] at hF)
              have ql : (Q ++ rg S j).length ≤ 912 := by rw [List.length_append, rg_len]; omega
              by_cases hje : (j : Int) = s.b
              · rw [hje] at hO ql
                obtain ⟨U, hU⟩ : ∃ U, Q ++ rg S s.b = U := ⟨_, rfl⟩
                rw [hU] at hO ql
                have HUU := hid hU
                have j1 : ¬ ((j : Int) < s.b) := by omega
                clear hje hU hF
                have hF := hO; (try simp only [Own, Item.Holds, apartI, CellsAt, Nat.reduceAdd, Nat.zero_add, List.mem_cons, List.not_mem_nil, or_false, forall_eq_or_imp, forall_eq, ne_eq, false_imp_iff, implies_true, and_true] at hF)
                go_wp2_with fail
                clear hF
                obtain ⟨E, hE⟩ : ∃ E, S + s.b + T = E := ⟨_, rfl⟩
                have eb : 0 ≤ E ∧ E ≤ 1000 := by omega
                have HEE := hid hE
                rw [hE]
                clear hE j1
                go_loopw [3, 7, 10] (fun o z t wi3 => ∃ p : Nat, (p : Int) ≤ x ∧ t = .int .i64 p ∧ z = .int .i64 (E + p) ∧ Own w.heap.size (Below w.heap.size w) wi3 [.row 3 1 o (U ++ rg E p).length (inC (U ++ rg E p)), .blk q [.int .i64 s.b, .int .i64 s.t, .slice B m eo]]) (fun _ _ t _ => (x - intOf t).toNat)
                case atStart => exact ⟨0, by omega, rfl, by simp, by rw [rg_zero (by omega), List.append_nil]; exact hO⟩
                case round =>
                  clear hO hj
                  obtain ⟨p, hp, rfl, rfl, hO⟩ := hrel
                  have hF := hO; (try simp only [Own, Item.Holds, apartI, CellsAt, Nat.reduceAdd, Nat.zero_add, List.mem_cons, List.not_mem_nil, or_false, forall_eq_or_imp, forall_eq, ne_eq, false_imp_iff, implies_true, and_true] at hF)
                  have ul : (U ++ rg E p).length ≤ 924 := by rw [List.length_append, rg_len]; omega
                  have HF2 := hid (show (p : Int) = x → U ++ rg E p = R ++ plT S s.b (S + s.b) ((esO s).take (i + 1)) ∧ E + p = S + s.b + sumI ((esO s).take (i + 1)) from fun e => by
                    rw [e, HP.out, HSU.out, ← HUU.out, ← HQ.out, ← HEE.out]
                    simp only [List.append_assoc]
                    exact ⟨trivial, by omega⟩)
                  rcases HXX.out with ⟨h1, h2⟩ | ⟨h1, h2, h3⟩
                  · have m0 : m = 0 := by rw [← HM.out, h1]; rfl
                    have p0 : p = 0 := by omega
                    have hF2 := HF2.out (by omega)
                    have HG := hid hF2
                    rw [hF2.1] at hO
                    rw [hF2.2]
                    have m1 : ¬ ((i : Int) < (m : Int)) := by omega
                    clear h1 h2 hF2 m0 hp ul hF
                    have hF := hO; (try simp only [Own, Item.Holds, apartI, CellsAt, Nat.reduceAdd, Nat.zero_add, List.mem_cons, List.not_mem_nil, or_false, forall_eq_or_imp, forall_eq, ne_eq, false_imp_iff, implies_true, and_true] at hF)
                    go_wp2_with fail
                    go_roundw
                    case rel => exact ⟨i + 1, by have := HI.out; omega, by go_num, rfl, hO⟩
                    case measure => have := HI.out; simp [intOf]; omega
                  · have m1 : (i : Int) < (m : Int) := by have := HM.out; have := HI.out; omega
                    obtain ⟨b2, off2, rfl, q1, q2, q3, hx2⟩ := HB2.out (by omega)
                    have g3 := ((bcell hO.base).1 b2 (off2 + i) q3).trans (hx2 i x h1)
                    clear h1 h2 h3 hx2
                    by_cases hpe : (p : Int) = x
                    · have hF2 := HF2.out hpe
                      rw [hF2.1] at hO
                      rw [hF2.2]
                      have p1 : ¬ ((p : Int) < x) := by omega
                      clear hF2 hpe hp ul hF
                      have hF := hO; (try simp only [Own, Item.Holds, apartI, CellsAt, Nat.reduceAdd, Nat.zero_add, List.mem_cons, List.not_mem_nil, or_false, forall_eq_or_imp, forall_eq, ne_eq, false_imp_iff, implies_true, and_true] at hF)
                      go_wp2_with fail
                      go_roundw
                      case rel => exact ⟨i + 1, by have := HI.out; omega, by go_num, rfl, hO⟩
                      case measure => have := HI.out; simp [intOf]; omega
                    · have p1 : (p : Int) < x := by omega
                      clear hpe hp
                      go_wp2_with (at_builtin; apply own_list hO; (repeat (first | (with_reducible exact hO) | (with_reducible apply Own.alloc) | (with_reducible apply Own.drew) | ((with_reducible apply Own.set_at); (focus (show _ ≤ _; omega))))); have hG := hF; clear hF; clear hO; intro hO; (try simp only [World.size_alloc1, World.size_drew, Nat.reduceAdd] at hO); (try simp only [upd, updI, List.map_cons, List.map_nil, eq_self, if_true, if_false, reduceIte, Nat.add_eq_left, Nat.left_eq_add, Nat.reduceEqDiff, List.set_cons_zero, List.set_cons_succ, hG] at hO); clear hG; (try simp only [World.size_setCell] at hO); refine wpList_append_item rfl _ _ 23 rfl 3 i0 (.int .i64 0) 1 8 Tryd.underlying23 hi hz0 hz1 hz2 rfl (by decide) rfl rfl hO rfl one1 (by unfold maxLen; omega) (by omega) ?_; clear hO; intro v' w2 hO _; have hF := hO; (try simp only [Own, Item.Holds, apartI, CellsAt, Nat.reduceAdd, Nat.zero_add, List.mem_cons, List.not_mem_nil, or_false, forall_eq_or_imp, forall_eq, ne_eq, false_imp_iff, implies_true, and_true] at hF))
                      go_roundw
                      case rel => exact ⟨p + 1, by omega, by go_num, by congr 1; push_cast; omega, by push_cast; rw [rg_up, ← List.append_assoc, List.length_append (bs := [E + (p : Int)]), ← inC_up]; exact hO⟩
                      case measure => simp [intOf]; omega
              · have hjl : (j : Int) < s.b := by omega
                clear hje hj
                go_wp2_with (at_builtin; apply own_list hO; (repeat (first | (with_reducible exact hO) | (with_reducible apply Own.alloc) | (with_reducible apply Own.drew) | ((with_reducible apply Own.set_at); (focus (show _ ≤ _; omega))))); have hG := hF; clear hF; clear hO; intro hO; (try simp only [World.size_alloc1, World.size_drew, Nat.reduceAdd] at hO); (try simp only [upd, updI, List.map_cons, List.map_nil, eq_self, if_true, if_false, reduceIte, Nat.add_eq_left, Nat.left_eq_add, Nat.reduceEqDiff, List.set_cons_zero, List.set_cons_succ, hG] at hO); clear hG; (try simp only [World.size_setCell] at hO); refine wpList_append_item rfl _ _ 23 rfl 3 i0 (.int .i64 0) 1 8 Tryd.underlying23 hi hz0 hz1 hz2 rfl (by decide) rfl rfl hO rfl one1 (by unfold maxLen; omega) (by omega) ?_; clear hO; intro v' w2 hO _; have hF := hO; (try simp only [Own, Item.Holds, apartI, CellsAt, Nat.reduceAdd, Nat.zero_add, List.mem_cons, List.not_mem_nil, or_false, forall_eq_or_imp, forall_eq, ne_eq, false_imp_iff, implies_true, and_true] at hF))
                go_roundw
                case rel => exact ⟨j + 1, by omega, by go_num, by push_cast; rw [rg_up, ← List.append_assoc, List.length_append (bs := [S + (j : Int)]), ← inC_up]; exact hO⟩
                case measure => simp [intOf]; omega
theorem poS_is {va : Value} {l : List Sec} {w : World} {o : List Int} (ha : SecsAt w va l) (hn : l.length ≤ 1048576) (hle : ∀ s ∈ l, s.e.length ≤ 1048576) (h : poL l = o) (W : World) (hW : Below w.heap.size w W) :
    Calls Tryd.prog 22 #[va] W (RowOut 3 1 o.length (inC o) W) := by
  subst h
  exact poS_any va l W (ha.below hW) hn hle
end Go.Proofs.YtpfefbpmchigeaaDoor
