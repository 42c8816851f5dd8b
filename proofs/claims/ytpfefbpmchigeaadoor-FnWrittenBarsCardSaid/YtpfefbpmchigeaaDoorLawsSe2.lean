/- The walk of the law of P46: the bars on paper. -/
import Derived.Test.YtpfefbpmchigeaaDoorLawsSe
namespace Go.Proofs.YtpfefbpmchigeaaDoor
set_option linter.unusedSimpArgs false
set_option linter.unusedVariables false
open Go.RowKit

theorem infoB7 : (Tryd.prog.info? 4).map (fun i => (i.zero, i.size, i.bytes)) = some (some (.bool false), 1, 1) := by kernel_rfl
abbrev boC (l : List Bool) : List Value := l.map Value.bool
/-- which bars are among those. -/
def seL (n : Nat) (P : List Int) : List Bool := (List.range n).map fun (i : Nat) => decide ((i : Int) ∈ P)
theorem seL_len (n : Nat) (P : List Int) : (seL n P).length = n := by simp [seL]
theorem seL_at {n i : Nat} {P : List Int} (h : i < n) : (boC (seL n P))[i]? = some (.bool (decide ((i : Int) ∈ P))) := by simp [seL, h]
theorem seL_set {n : Nat} {P : List Int} {y : Int} (h0 : 0 ≤ y) : (boC (seL n P)).set y.toNat (.bool true) = boC (seL n (P ++ [y])) := by
  apply List.ext_getElem?
  intro i
  rw [List.getElem?_set]
  by_cases hi : i < n
  · rw [seL_at (P := P ++ [y]) hi]
    by_cases he : y.toNat = i
    · rw [if_pos he, if_pos (by rw [List.length_map, seL_len]; omega)]
      have : (i : Int) = y := by omega
      simp [this]
    · rw [if_neg he, seL_at hi]
      have hne : ¬ (i : Int) = y := by omega
      simp [hne]
  · have h1 : (boC (seL n (P ++ [y])))[i]? = none := List.getElem?_eq_none (by rw [List.length_map, seL_len]; omega)
    have h2 : (boC (seL n P))[i]? = none := List.getElem?_eq_none (by rw [List.length_map, seL_len]; omega)
    rw [h1, h2]
    split
    · rw [if_neg (by rw [List.length_map, seL_len]; omega)]
    · rfl
theorem madeB (n : Nat) : (madeCells (Value.bool false).cells (n * 1)).toList = boC (seL n []) := by
  have hz : (Value.bool false).cells = #[.bool false] := by kernel_rfl
  rw [hz]
  have := made_rep #[Value.bool false] (by decide) n
  rw [show (#[Value.bool false] : Array Value).size = 1 from rfl] at this
  rw [this]
  clear this hz
  have h2 : boC (seL n []) = List.replicate n (Value.bool false) := by
    apply List.ext_getElem?
    intro i
    by_cases hi : i < n
    · rw [seL_at hi, List.getElem?_replicate, if_pos hi]; simp
    · rw [List.getElem?_eq_none (by rw [List.length_map, seL_len]; omega), List.getElem?_eq_none (by simp; omega)]
  rw [h2]
  induction n with
  | zero => rfl
  | succ n ih => rw [List.replicate_succ, List.flatten_cons, List.replicate_succ, ih (by
      apply List.ext_getElem?
      intro i
      by_cases hi : i < n
      · rw [seL_at hi, List.getElem?_replicate, if_pos hi]; simp
      · rw [List.getElem?_eq_none (by rw [List.length_map, seL_len]; omega), List.getElem?_eq_none (by simp; omega)])]; rfl

set_option maxRecDepth 20000 in
set_option maxHeartbeats 2000000 in
theorem fnWrittenBars_any (v : Value) (n : Nat) (w : World) (hn : n ≤ maxLen) (h : BytesB w w.heap.size v n) (ht : TabH w) :
    Calls Tryd.prog 5 #[v] w fun e w' => e = .returned (.bool true) ∧ Below w.heap.size w w' := by
  obtain ⟨a0, c0, rfl⟩ := bytes_form h
  have hn' : (n : Int) ≤ 9223372036854775807 := by unfold maxLen at hn; omega
  obtain ⟨i0, hi, hz0, hz1, hz2⟩ := info_parts infoB7
  by_cases hl : n ≤ 1048576
  · have hl' : (n : Int) ≤ 1048576 := by omega
    go_enter Tryd.func5, Tryd.ntmps5
    go_wp2_with (go_at_call 16; refine (DrawWrittenBars_any _ n _ hn h).mono ?_; rintro e wd ⟨u, l, hs, hl9, rfl, hS, hb0⟩; clear hn h)
    have HB0 := hid hb0
    have HT := hid (ht.below hb0)
    have hle := se_few hs
    have hn9 : l.length ≤ 1048576 := by omega
    have hO := Own.start wd
    have hF := True.intro
    cases hv : ssB l
    · have hz : wrZ l = -1 := by unfold wrZ; rw [hv]; rfl
      have HI := hid (fun W (hW : Below wd.heap.size wd W) => wrI_is hS.at hn9 hle hz W hW)
      have HS := hid (fun W (hW : Below wd.heap.size wd W) => wrS_is hS.at hn9 hle hz W hW)
      clear hb0 hs hS hle hn9 hl9 hv hz
      go_wp2_with (go_at_call 17; apply own_at hO; (repeat (first | (with_reducible exact hO) | (with_reducible apply Own.alloc) | (with_reducible apply Own.drew) | ((with_reducible apply Own.set_at); (focus (show _ ≤ _; omega))))); have hG := hF; clear hF; clear hO; intro hO; refine own_call hO (fun hB => HI.out _ hB) ?_; clear hO; intro w1 hO; (try simp only [World.size_alloc1, World.size_drew, Nat.reduceAdd] at hO); (try simp only [upd, updI, List.map_cons, List.map_nil, eq_self, if_true, if_false, reduceIte, Nat.add_eq_left, Nat.left_eq_add, Nat.reduceEqDiff, List.set_cons_zero, List.set_cons_succ, hG] at hO); clear hG; have hF := hO; (try simp only [Own, Item.Holds, apartI, CellsAt, Nat.reduceAdd, Nat.zero_add, List.mem_cons, List.not_mem_nil, or_false, forall_eq_or_imp, forall_eq, ne_eq, false_imp_iff, implies_true, and_true] at hF))
      go_wp2_with (go_at_call 18; apply own_at hO; (repeat (first | (with_reducible exact hO) | (with_reducible apply Own.alloc) | (with_reducible apply Own.drew) | ((with_reducible apply Own.set_at); (focus (show _ ≤ _; omega))))); have hG := hF; clear hF; clear hO; intro hO; refine own_call hO (fun hB => HS.out _ hB) ?_; clear hO; intro w1 hO; (try simp only [World.size_alloc1, World.size_drew, Nat.reduceAdd] at hO); (try simp only [upd, updI, List.map_cons, List.map_nil, eq_self, if_true, if_false, reduceIte, Nat.add_eq_left, Nat.left_eq_add, Nat.reduceEqDiff, List.set_cons_zero, List.set_cons_succ, hG] at hO); clear hG; have hF := hO; (try simp only [Own, Item.Holds, apartI, CellsAt, Nat.reduceAdd, Nat.zero_add, List.mem_cons, List.not_mem_nil, or_false, forall_eq_or_imp, forall_eq, ne_eq, false_imp_iff, implies_true, and_true] at hF))
      go_wp2_with (go_at_call 12; apply own_at hO; (repeat (first | (with_reducible exact hO) | (with_reducible apply Own.alloc) | (with_reducible apply Own.drew) | ((with_reducible apply Own.set_at); (focus (show _ ≤ _; omega))))); have hG := hF; clear hF; clear hO; intro hO; refine own_call hO (fun hB => alive_any _ (HT.out.below hB)) ?_; clear hO; intro w1 hO; (try simp only [World.size_alloc1, World.size_drew, Nat.reduceAdd] at hO); (try simp only [upd, updI, List.map_cons, List.map_nil, eq_self, if_true, if_false, reduceIte, Nat.add_eq_left, Nat.left_eq_add, Nat.reduceEqDiff, List.set_cons_zero, List.set_cons_succ, hG] at hO); clear hG; have hF := hO; (try simp only [Own, Item.Holds, apartI, CellsAt, Nat.reduceAdd, Nat.zero_add, List.mem_cons, List.not_mem_nil, or_false, forall_eq_or_imp, forall_eq, ne_eq, false_imp_iff, implies_true, and_true] at hF))
      go_ret
      exact ⟨rfl, btr HB0.out (Own.base (by (repeat (first | (with_reducible exact hO) | (with_reducible apply Own.alloc) | (with_reducible apply Own.drew) | ((with_reducible apply Own.set_at); (focus (show _ ≤ _; omega)))))))⟩
    · have hz : wrZ l = wrN l := by unfold wrZ; rw [hv]; rfl
      have hp := po_len hv
      obtain ⟨N, hN⟩ : ∃ N : Nat, wrN l = N := ⟨(wrN l).toNat, by omega⟩
      rw [hN] at hz
      have HI := hid (fun W (hW : Below wd.heap.size wd W) => wrI_is hS.at hn9 hle hz W hW)
      have HS := hid (fun W (hW : Below wd.heap.size wd W) => wrS_is hS.at hn9 hle hz W hW)
      have HP := hid (fun W (hW : Below wd.heap.size wd W) => poI_is hS.at hn9 hle (poL_yes hv) W hW)
      obtain ⟨O, hO'⟩ : ∃ O, plL 0 l = O := ⟨_, rfl⟩
      have HM := hid (fun y (hy : y ∈ O) => show 0 ≤ y ∧ y < (N : Int) by
        have := plL_mem (ssB_iff.1 hv).1 (hO' ▸ hy)
        omega)
      have HC := hid (fun (j : Nat) (hj : j < N) => show (j : Int) ∈ O by
        rw [← hO']
        exact plL_cover (at' := 0) (ssB_iff.1 hv).1 (by omega) (by omega))
      rw [hO'] at HP hp
      rw [hN] at hp
      obtain ⟨K, hK⟩ : ∃ K, O.length = K := ⟨_, rfl⟩
      have HK := hid hK
      rw [hK] at HP hp
      have n4 : N ≤ 480 := by omega
      have k7 : K ≤ 768 := by omega
      have nk : (N : Int) ≤ K := hp.1
      have n0 : ¬ ((N : Int) < 0) := by omega
      clear hb0 hs hS hle hn9 hl9 hv hz hO' hK hp hN
      go_wp2_with (go_at_call 17; apply own_at hO; (repeat (first | (with_reducible exact hO) | (with_reducible apply Own.alloc) | (with_reducible apply Own.drew) | ((with_reducible apply Own.set_at); (focus (show _ ≤ _; omega))))); have hG := hF; clear hF; clear hO; intro hO; refine own_call hO (fun hB => HI.out _ hB) ?_; clear hO; intro w1 hO; (try simp only [World.size_alloc1, World.size_drew, Nat.reduceAdd] at hO); (try simp only [upd, updI, List.map_cons, List.map_nil, eq_self, if_true, if_false, reduceIte, Nat.add_eq_left, Nat.left_eq_add, Nat.reduceEqDiff, List.set_cons_zero, List.set_cons_succ, hG] at hO); clear hG; have hF := hO; (try simp only [Own, Item.Holds, apartI, CellsAt, Nat.reduceAdd, Nat.zero_add, List.mem_cons, List.not_mem_nil, or_false, forall_eq_or_imp, forall_eq, ne_eq, false_imp_iff, implies_true, and_true] at hF))
      go_wp2_with (first | (go_at_call 18; apply own_at hO; (repeat (first | (with_reducible exact hO) | (with_reducible apply Own.alloc) | (with_reducible apply Own.drew) | ((with_reducible apply Own.set_at); (focus (show _ ≤ _; omega))))); have hG := hF; clear hF; clear hO; intro hO; refine own_call hO (fun hB => HS.out _ hB) ?_; clear hO; intro w1 hO; (try simp only [World.size_alloc1, World.size_drew, Nat.reduceAdd] at hO); (try simp only [upd, updI, List.map_cons, List.map_nil, eq_self, if_true, if_false, reduceIte, Nat.add_eq_left, Nat.left_eq_add, Nat.reduceEqDiff, List.set_cons_zero, List.set_cons_succ, hG] at hO); clear hG; have hF := hO; (try simp only [Own, Item.Holds, apartI, CellsAt, Nat.reduceAdd, Nat.zero_add, List.mem_cons, List.not_mem_nil, or_false, forall_eq_or_imp, forall_eq, ne_eq, false_imp_iff, implies_true, and_true] at hF)) | (at_make; go_loud (refine wpList_make_item rfl _ _ 34 rfl 4 i0 (.bool false) 1 1 Tryd.underlying34 hi hz0 hz1 hz2 _ _ _ _ N rfl rfl rfl rfl (by omega) (by unfold maxLen; omega) (by (repeat (first | (with_reducible exact hO) | (with_reducible apply Own.alloc) | (with_reducible apply Own.drew) | ((with_reducible apply Own.set_at); (focus (show _ ≤ _; omega)))))) ?_); clear hO hF; intro q w2 hO; have hF := hO; (try simp only [Own, Item.Holds, apartI, CellsAt, Nat.reduceAdd, Nat.zero_add, List.mem_cons, List.not_mem_nil, or_false, forall_eq_or_imp, forall_eq, ne_eq, false_imp_iff, implies_true, and_true] at hF)))
      rw [madeB N] at hO
      go_wp2_with ((go_at_call 19; apply own_at hO; (repeat (first | (with_reducible exact hO) | (with_reducible apply Own.alloc) | (with_reducible apply Own.drew) | ((with_reducible apply Own.set_at); (focus (show _ ≤ _; omega))))); have hG := hF; clear hF; clear hO; intro hO; refine own_call_row hO (fun hB => HP.out _ hB) ?_; clear hO; intro v w1 hO; (try simp only [World.size_alloc1, World.size_drew, Nat.reduceAdd] at hO); (try simp only [upd, updI, List.map_cons, List.map_nil, eq_self, if_true, if_false, reduceIte, Nat.add_eq_left, Nat.left_eq_add, Nat.reduceEqDiff, List.set_cons_zero, List.set_cons_succ, hG] at hO); clear hG; have hF := hO; (try simp only [Own, Item.Holds, apartI, CellsAt, Nat.reduceAdd, Nat.zero_add, List.mem_cons, List.not_mem_nil, or_false, forall_eq_or_imp, forall_eq, ne_eq, false_imp_iff, implies_true, and_true] at hF)); obtain ⟨A1, cp1, hv1⟩ := (SlAt.of_row hO.1.1).form; subst hv1)
      replace hO := hO.perm (List.Perm.swap _ _ _)
      clear hF
      go_loopw [7] (fun t wr => ∃ k : Nat, k ≤ K ∧ t = .int .i64 k ∧ Own wd.heap.size (Below wd.heap.size wd) wr [.row 4 1 (.slice (some ⟨q, 0, none⟩) N N) N (boC (seL N (O.take k))), .row 3 1 (.slice A1 K cp1) K (inC O)]) (fun t _ => K - (intOf t).toNat)
      case atStart => exact ⟨0, by omega, rfl, hO⟩
      case round =>
        clear hO
        obtain ⟨k, hk, rfl, hO⟩ := hrel
        have hF := hO; (try simp only [Own, Item.Holds, apartI, CellsAt, Nat.reduceAdd, Nat.zero_add, List.mem_cons, List.not_mem_nil, or_false, forall_eq_or_imp, forall_eq, ne_eq, false_imp_iff, implies_true, and_true] at hF)
        by_cases hend : k = K
        · subst hend
          rw [show O.take k = O by rw [← HK.out, List.take_length]] at hO
          clear hF
          have hF := hO; (try simp only [Own, Item.Holds, apartI, CellsAt, Nat.reduceAdd, Nat.zero_add, List.mem_cons, List.not_mem_nil, or_false, forall_eq_or_imp, forall_eq, ne_eq, false_imp_iff, implies_true, and_true] at hF)
          go_wp2_with fail
          go_loopw [8] (fun t wr => ∃ j : Nat, j ≤ N ∧ t = .int .i64 j ∧ Own wd.heap.size (Below wd.heap.size wd) wr [.row 4 1 (.slice (some ⟨q, 0, none⟩) N N) N (boC (seL N O)), .row 3 1 (.slice A1 k cp1) k (inC O)]) (fun t _ => N - (intOf t).toNat)
          case atStart => exact ⟨0, by omega, rfl, hO⟩
          case round =>
            clear hO hF
            obtain ⟨j, hj, rfl, hO⟩ := hrel
            have hF := hO; (try simp only [Own, Item.Holds, apartI, CellsAt, Nat.reduceAdd, Nat.zero_add, List.mem_cons, List.not_mem_nil, or_false, forall_eq_or_imp, forall_eq, ne_eq, false_imp_iff, implies_true, and_true] at hF)
            by_cases hje : j = N
            · subst hje
              go_wp2_with fail
              go_ret
              exact ⟨ret_bool (by simp <;> omega), btr HB0.out hO.base⟩
            · have hjl : j < N := by omega
              have hjl2 : (j : Int) < N := by omega
              have g0 := hO.row_cell (seL_at (P := O) hjl)
              rw [show decide ((j : Int) ∈ O) = true by simpa using HC.out j hjl] at g0
              clear hje
              go_wp2_with fail
              go_roundw
              case rel => exact ⟨j + 1, by omega, by go_num, hO⟩
              case measure => simp [intOf]; omega
        · have hlt : k < K := by omega
          have hlt2 : (k : Int) < K := by omega
          obtain ⟨q9, cp, hq, q1, q2⟩ := hO.2.row_open (by omega)
          cases hq
          unfold maxLen at q2
          obtain ⟨y, hy⟩ : ∃ y, O[k]? = some y := ⟨_, List.getElem?_eq_getElem (by have := HK.out; omega)⟩
          obtain ⟨y0, y1⟩ := HM.out y (List.mem_of_getElem? hy)
          have g0 := hO.2.row_cell (i := k) (u := .int .i64 y) (by rw [List.getElem?_map, hy]; rfl)
          have g1 := hO.row_cell (seL_at (P := O.take k) (i := y.toNat) (n := N) (by omega))
          have f1 := hO.row_free y.toNat
          have hO2 := hO.row_set y.toNat (.bool true)
          rw [seL_set y0, ← get_up hy] at hO2
          obtain ⟨z, hz⟩ : ∃ z, decide ((y.toNat : Int) ∈ O.take k) = z := ⟨_, rfl⟩
          rw [hz] at g1
          clear hend hk hy hz hO hF
          go_wp2_with fail
          go_roundw
          case rel => exact ⟨k + 1, by omega, by go_num, hO2⟩
          case measure => simp [intOf]; omega
  · have hl' : 1048576 < (n : Int) := by omega
    go_enter Tryd.func5, Tryd.ntmps5
    go_wp2
    go_ret
    exact ⟨rfl, Below.refl _ _⟩
end Go.Proofs.YtpfefbpmchigeaaDoor
