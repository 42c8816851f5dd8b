/- Chapter 7 in the model: the bars on paper. -/
import Derived.Test.YtpfefbpmchigeaaDoorWalks7S
namespace Go.Proofs.YtpfefbpmchigeaaDoor
set_option linter.unusedSimpArgs false
set_option linter.unusedVariables false
open Go.RowKit

theorem wrN_up {l : List Sec} {k : Nat} {s : Sec} (hs : l[k]? = some s) : wrN (l.take (k + 1)) = wrN (l.take k) + (s.b + sumI s.e) := by
  rw [List.take_add_one, hs, wrN_append]; simp [wrN, wrS]
theorem sumI_up {l : List Int} {k : Nat} {x : Int} (hx : l[k]? = some x) : sumI (l.take (k + 1)) = sumI (l.take k) + x := by
  rw [List.take_add_one, hx, sumI_append]; simp [sumI]
theorem ss_take {l : List Sec} (h : ssB l = true) (k : Nat) : 0 ≤ wrN (l.take k) ∧ wrN (l.take k) ≤ 480 := by
  have := po_len (ssB_take h k)
  omega
theorem ss_at {l : List Sec} (h : ssB l = true) {k : Nat} {s : Sec} (hs : l[k]? = some s) : seB s = true := (ssB_iff.1 h).1 s (List.mem_of_getElem? hs)
theorem se_take {s : Sec} (h : seB s = true) (j : Nat) : 0 ≤ sumI (s.e.take j) ∧ sumI (s.e.take j) ≤ 48 ∧ s.e.length ≤ 4 := by
  obtain ⟨h1, _, h3, h4⟩ := seB_iff.1 h
  have hl : s.e.length ≤ 4 := by
    rcases h4 with h4 | h4
    · rw [h4]; simp
    · omega
  have a := sumI_pos (fun x hx => (h1 x (List.mem_of_mem_take hx)).1 : ∀ x ∈ s.e.take j, 0 ≤ x)
  have b := sumI_le (fun x hx => (h1 x (List.mem_of_mem_take hx)).2 : ∀ x ∈ s.e.take j, x ≤ 12)
  have c : (s.e.take j).length ≤ 4 := by rw [List.length_take]; omega
  omega

set_option maxHeartbeats 8000000 in
theorem wrS_any (va : Value) (l : List Sec) (w : World) (ha : SecsAt w va l) (hn : l.length ≤ 1048576) (hle : ∀ s ∈ l, s.e.length ≤ 1048576) :
    Calls Tryd.prog 18 #[va] w fun r w' => r = .returned (.int .i64 (wrZ l)) ∧ Below w.heap.size w w' := by
  have hO := Own.start w
  have hF := True.intro
  obtain ⟨A, c, rfl, hA⟩ := ha.open
  obtain ⟨n, hnl⟩ : ∃ n, l.length = n := ⟨_, rfl⟩
  have HN := hid hnl
  cases hv : ssB l
  · have HE := hid (show wrZ l = -1 by unfold wrZ; rw [hv]; rfl)
    have HV := hid (ssS_is ha hn hle hv)
    rw [hnl] at hA hn HV
    rw [hnl]
    clear ha hle hv hA hnl
    go_enter Tryd.func18, Tryd.ntmps18
    go_wp2_with (go_at_call 15; apply own_at hO; (repeat (first | (with_reducible exact hO) | (with_reducible apply Own.alloc) | (with_reducible apply Own.drew) | ((with_reducible apply Own.set_at); (focus (show _ ≤ _; omega))))); have hG := hF; clear hF; clear hO; intro hO; refine own_call hO (fun hB => HV.out _ hB) ?_; clear hO; intro w1 hO; (try simp only [World.size_alloc1, World.size_drew, Nat.reduceAdd] at hO); (try simp only [upd, updI, List.map_cons, List.map_nil, eq_self, if_true, if_false, reduceIte, Nat.add_eq_left, Nat.left_eq_add, Nat.reduceEqDiff, List.set_cons_zero, List.set_cons_succ, hG] at hO); clear hG; have hF := hO; (try simp only [Own, Item.Holds, apartI, CellsAt, Nat.reduceAdd, Nat.zero_add, List.mem_cons, List.not_mem_nil, or_false, forall_eq_or_imp, forall_eq, ne_eq, false_imp_iff, implies_true, and_true] at hF))
    go_ret
    exact ⟨ret_int HE.out.symm, Own.base (by (repeat (first | (with_reducible exact hO) | (with_reducible apply Own.alloc) | (with_reducible apply Own.drew) | ((with_reducible apply Own.set_at); (focus (show _ ≤ _; omega))))))⟩
  · have HE := hid (show wrZ l = wrN l by unfold wrZ; rw [hv]; rfl)
    have HV := hid (ssS_is ha hn hle hv)
    have HVO := hid hv
    rw [hnl] at hA hn HV
    rw [hnl]
    clear ha hle hv hnl
    go_enter Tryd.func18, Tryd.ntmps18
    go_wp2_with (go_at_call 15; apply own_at hO; (repeat (first | (with_reducible exact hO) | (with_reducible apply Own.alloc) | (with_reducible apply Own.drew) | ((with_reducible apply Own.set_at); (focus (show _ ≤ _; omega))))); have hG := hF; clear hF; clear hO; intro hO; refine own_call hO (fun hB => HV.out _ hB) ?_; clear hO; intro w1 hO; (try simp only [World.size_alloc1, World.size_drew, Nat.reduceAdd] at hO); (try simp only [upd, updI, List.map_cons, List.map_nil, eq_self, if_true, if_false, reduceIte, Nat.add_eq_left, Nat.left_eq_add, Nat.reduceEqDiff, List.set_cons_zero, List.set_cons_succ, hG] at hO); clear hG; have hF := hO; (try simp only [Own, Item.Holds, apartI, CellsAt, Nat.reduceAdd, Nat.zero_add, List.mem_cons, List.not_mem_nil, or_false, forall_eq_or_imp, forall_eq, ne_eq, false_imp_iff, implies_true, and_true] at hF))
    (apply own_code hO; (repeat (first | (with_reducible exact hO) | (with_reducible apply Own.alloc) | (with_reducible apply Own.drew) | ((with_reducible apply Own.set_at); (focus (show _ ≤ _; omega))))); have hG := hF; clear hF; clear hO; intro hO; (try simp only [World.size_alloc1, World.size_drew, Nat.reduceAdd] at hO); (try simp only [upd, updI, List.map_cons, List.map_nil, eq_self, if_true, if_false, reduceIte, Nat.add_eq_left, Nat.left_eq_add, Nat.reduceEqDiff, List.set_cons_zero, List.set_cons_succ, hG] at hO); clear hG; have hF := hO; (try simp only [Own, Item.Holds, apartI, CellsAt, Nat.reduceAdd, Nat.zero_add, List.mem_cons, List.not_mem_nil, or_false, forall_eq_or_imp, forall_eq, ne_eq, false_imp_iff, implies_true, and_true] at hF))
    go_loopw [3, 4] (fun s t wr => ∃ k : Nat, k ≤ n ∧ t = .int .i64 k ∧ s = .int .i64 (wrN (l.take k)) ∧ Own w.heap.size (Below w.heap.size w) wr []) (fun _ t _ => n - (intOf t).toNat)
    case atStart => exact ⟨0, by omega, rfl, rfl, hO⟩
    case round =>
      clear hO hF
      obtain ⟨k, hk, rfl, rfl, hO⟩ := hrel
      have hF := True.intro
      by_cases hend : k = n
      · subst hend
        have e1 : wrN (l.take k) = wrZ l := by rw [HE.out, ← HN.out, List.take_length]
        rw [e1]
        go_wp2_with fail
        go_ret
        exact ⟨rfl, hO.base⟩
      · have hlt : k < n := by omega
        have hlt2 : (k : Int) < n := by omega
        obtain ⟨b', off, rfl, hc1, hc2, hb, hcell⟩ := hA (by omega)
        obtain ⟨s, hs⟩ : ∃ s, l[k]? = some s := ⟨_, List.getElem?_eq_getElem (by have := HN.out; omega)⟩
        obtain ⟨ev, hev, d0, d1, d2⟩ := hcell k s hs
        have hse := ss_at HVO.out hs
        have hst := se_take hse
        obtain ⟨B, eo, rfl, hB⟩ := hev.open (by have := (hst 0).2.2; omega)
        have g0 := (bcell hO.base).1 b' (off + k * 3) hb
        have g2 := (bcell hO.base).1 b' (off + k * 3 + 2) hb
        rw [d0] at g0
        rw [d2] at g2
        have sb := ss_take HVO.out k
        have bb := (seB_iff.1 hse).2.1
        have HU := hid (wrN_up hs)
        have HSE := hid hse
        have HD := hid (And.intro d2 hb)
        have HK := hid (And.intro hk hlt)
        obtain ⟨m, hm⟩ : ∃ m, s.e.length = m := ⟨_, rfl⟩
        have HM := hid hm
        have m4 := (hst 0).2.2
        rw [hm] at hB m4 g2 HD
        obtain ⟨S, hS⟩ : ∃ S, wrN (l.take k) = S := ⟨_, rfl⟩
        rw [hS] at sb HU
        rw [hS]
        have HST := hid hst
        have HB2 := hid hB
        clear hend hs hcell hev d0 d1 d2 hse hst hS hm hA hk hlt hB
        go_wp2_with fail
        go_loopw [3, 5] (fun z t wi => ∃ j : Nat, j ≤ m ∧ t = .int .i64 j ∧ z = .int .i64 (S + s.b + sumI (s.e.take j)) ∧ Own w.heap.size (Below w.heap.size w) wi []) (fun _ t _ => m - (intOf t).toNat)
        case atStart => exact ⟨0, by omega, rfl, by simp [sumI], hO⟩
        case round =>
          clear hO g0 g2
          obtain ⟨j, hj, rfl, rfl, hO⟩ := hrel
          have hF := True.intro
          have g2 := (bcell hO.base).1 b' (off + k * 3 + 2) hb
          rw [HD.out.1] at g2
          by_cases hje : j = m
          · subst hje
            have e2 : sumI (s.e.take j) = sumI s.e := by rw [← HM.out, List.take_length]
            rw [e2]
            go_wp2_with fail
            go_roundw
            case rel => exact ⟨k + 1, by have := HK.out; omega, by go_num, by rw [HU.out]; congr 1; omega, hO⟩
            case measure => have := HK.out; simp [intOf]; omega
          · have hjlt : j < m := by omega
            have hjlt2 : (j : Int) < m := by omega
            obtain ⟨b2, off2, rfl, q1, q2, q3, hx2⟩ := HB2.out (by omega)
            obtain ⟨x, hx⟩ : ∃ x, s.e[j]? = some x := ⟨_, List.getElem?_eq_getElem (by have := HM.out; omega)⟩
            have g3 := (bcell hO.base).1 b2 (off2 + j) q3
            rw [hx2 j x hx] at g3
            have xb := (seB_iff.1 HSE.out).1 x (List.mem_of_getElem? hx)
            have tb := HST.out j
            have HX := hid (sumI_up hx)
            obtain ⟨T, hT⟩ : ∃ T, sumI (s.e.take j) = T := ⟨_, rfl⟩
            rw [hT] at tb HX
            rw [hT]
            obtain ⟨tb1, tb2, _⟩ := tb
            clear hje hx hx2 hT
            go_wp2_with fail
            go_roundw
            case rel => exact ⟨j + 1, by omega, by go_num, by rw [HX.out]; congr 1; omega, hO⟩
            case measure => simp [intOf]; omega
end Go.Proofs.YtpfefbpmchigeaaDoor
