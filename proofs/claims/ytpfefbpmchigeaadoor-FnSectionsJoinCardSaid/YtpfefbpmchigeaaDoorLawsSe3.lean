/- The walk of the law of P47: how often bars are played. -/
import Derived.Test.YtpfefbpmchigeaaDoorLawsSe
import Derived.Test.YtpfefbpmchigeaaDoorWalksIS
namespace Go.Proofs.YtpfefbpmchigeaaDoor
set_option linter.unusedSimpArgs false
set_option linter.unusedVariables false
open Go.RowKit

theorem count_up {l : List Int} {k : Nat} {z : Int} (y : Int) (h : l[k]? = some z) : ((l.take (k + 1)).count y : Int) = (l.take k).count y + (if z = y then 1 else 0) := by
  rw [get_up h, List.count_append, List.count_singleton]
  by_cases hz : z = y
  · subst hz; simp
  · rw [if_neg hz, if_neg (by simpa using hz)]; simp
theorem allInt_C (l : List Int) : AllInt (inC l) := by
  intro j u hu
  obtain ⟨x, _, rfl⟩ := List.mem_map.1 (List.mem_of_getElem? hu)
  exact ⟨x, rfl⟩
/-- The two counts of a bar, wherever it lies. -/
theorem pl_bar' {l : List Sec} (hv : ssB l = true) {k : Nat} {s : Sec} (hs : l[k]? = some s) {b : Int} (h0 : 0 ≤ b) (h1 : b < s.b) : ((plL 0 l).count (wrN (l.take k) + b) : Int) = s.t := pl_bar (ssB_iff.1 hv).1 hs ⟨by omega, by omega⟩
theorem pl_end' {l : List Sec} (hv : ssB l = true) {k : Nat} {s : Sec} (hs : l[k]? = some s) {j : Nat} {x b : Int} (hx : s.e[j]? = some x) (h0 : 0 ≤ b) (h1 : b < x) : (plL 0 l).count (wrN (l.take k) + s.b + sumI (s.e.take j) + b) = 1 := by
  have hse := ss_at hv hs
  have h2 := (seB_iff.1 hse).1
  have a := sumI_pos (fun z hz => (h2 z (List.mem_of_mem_take hz)).1 : ∀ z ∈ s.e.take j, 0 ≤ z)
  have hd : sumI s.e = sumI (s.e.take j) + (x + sumI (s.e.drop (j + 1))) := by
    have e : s.e = s.e.take j ++ (x :: s.e.drop (j + 1)) := by
      have hl := (List.getElem?_eq_some_iff.1 hx).1
      have : s.e.drop j = x :: s.e.drop (j + 1) := by
        rw [List.drop_eq_getElem_cons hl]; congr 1
        rw [List.getElem?_eq_getElem hl] at hx; exact Option.some.inj hx
      rw [← this, List.take_append_drop]
    have := congrArg sumI e
    rw [sumI_append] at this
    simpa [sumI] using this
  have c := sumI_pos (fun z hz => (h2 z (List.mem_of_mem_drop hz)).1 : ∀ z ∈ s.e.drop (j + 1), 0 ≤ z)
  exact pl_end (ssB_iff.1 hv).1 hs ⟨by omega, by unfold wrS; omega⟩

set_option maxRecDepth 20000 in
set_option maxHeartbeats 4000000 in
theorem fnPlayedOrder_any (v : Value) (n : Nat) (w : World) (hn : n ≤ maxLen) (h : BytesB w w.heap.size v n) (ht : TabH w) :
    Calls Tryd.prog 6 #[v] w fun e w' => e = .returned (.bool true) ∧ Below w.heap.size w w' := by
  obtain ⟨a0, c0, rfl⟩ := bytes_form h
  have hn' : (n : Int) ≤ 9223372036854775807 := by unfold maxLen at hn; omega
  by_cases hl : n ≤ 1048576
  · have hl' : (n : Int) ≤ 1048576 := by omega
    go_enter Tryd.func6, Tryd.ntmps6
    go_wp2_with (go_at_call 20; refine (DrawPlayedOrder_any _ n _ hn h).mono ?_; rintro e wd ⟨u, l, hs, hl9, rfl, hS, hb0⟩; clear hn h)
    have HB0 := hid hb0
    have HT := hid (ht.below hb0)
    have hle := se_few hs
    have hn9 : l.length ≤ 1048576 := by omega
    have hO := Own.start wd
    have hF := True.intro
    obtain ⟨o, ho⟩ : ∃ o, ssB l = o := ⟨_, rfl⟩
    have HV := hid (fun W (hW : Below wd.heap.size wd W) => ssS_is hS.at hn9 hle ho W hW)
    have HI := hid (fun W (hW : Below wd.heap.size wd W) => poI_is hS.at hn9 hle rfl W hW)
    have HS := hid (fun W (hW : Below wd.heap.size wd W) => poS_is hS.at hn9 hle rfl W hW)
    have HAI := hid (allInt_C (poL l))
    cases o
    · rw [poL_no ho] at HI HS HAI
      simp only [List.length_nil] at HI HS
      clear hb0 hs hS hle hn9 hl9 ho
      go_wp2_with ((go_at_call 19; apply own_at hO; (repeat (first | (with_reducible exact hO) | (with_reducible apply Own.alloc) | (with_reducible apply Own.drew) | ((with_reducible apply Own.set_at); (focus (show _ ≤ _; omega))))); have hG := hF; clear hF; clear hO; intro hO; refine own_call_row hO (fun hB => HI.out _ hB) ?_; clear hO; intro v w1 hO; (try simp only [World.size_alloc1, World.size_drew, Nat.reduceAdd] at hO); (try simp only [upd, updI, List.map_cons, List.map_nil, eq_self, if_true, if_false, reduceIte, Nat.add_eq_left, Nat.left_eq_add, Nat.reduceEqDiff, List.set_cons_zero, List.set_cons_succ, hG] at hO); clear hG; have hF := hO; (try simp only [Own, Item.Holds, apartI, CellsAt, Nat.reduceAdd, Nat.zero_add, List.mem_cons, List.not_mem_nil, or_false, forall_eq_or_imp, forall_eq, ne_eq, false_imp_iff, implies_true, and_true] at hF)); obtain ⟨A1, cp1, hv1⟩ := (SlAt.of_row hO.1.1).form; subst hv1)
      go_wp2_with (first | (go_at_call 22; apply own_at hO; (repeat (first | (with_reducible exact hO) | (with_reducible apply Own.alloc) | (with_reducible apply Own.drew) | ((with_reducible apply Own.set_at); (focus (show _ ≤ _; omega))))); have hG := hF; clear hF; clear hO; intro hO; refine own_call_row hO (fun hB => HS.out _ hB) ?_; clear hO; intro v w1 hO; (try simp only [World.size_alloc1, World.size_drew, Nat.reduceAdd] at hO); (try simp only [upd, updI, List.map_cons, List.map_nil, eq_self, if_true, if_false, reduceIte, Nat.add_eq_left, Nat.left_eq_add, Nat.reduceEqDiff, List.set_cons_zero, List.set_cons_succ, hG] at hO); clear hG; have hF := hO; (try simp only [Own, Item.Holds, apartI, CellsAt, Nat.reduceAdd, Nat.zero_add, List.mem_cons, List.not_mem_nil, or_false, forall_eq_or_imp, forall_eq, ne_eq, false_imp_iff, implies_true, and_true] at hF)) | (go_at_call 21; apply own_at hO; (repeat (first | (with_reducible exact hO) | (with_reducible apply Own.alloc) | (with_reducible apply Own.drew) | ((with_reducible apply Own.set_at); (focus (show _ ≤ _; omega))))); have hG := hF; clear hF; clear hO; intro hO; refine own_callO hO (fun hW => sameInts_same _ _ 0 (inC []) _ (SlAt.of_row hW.2.1.1) (SlAt.of_row hW.1.1) HAI.out) ?_; clear hO; intro w1 hO; (try simp only [World.size_alloc1, World.size_drew, Nat.reduceAdd] at hO); (try simp only [upd, updI, List.map_cons, List.map_nil, eq_self, if_true, if_false, reduceIte, Nat.add_eq_left, Nat.left_eq_add, Nat.reduceEqDiff, List.set_cons_zero, List.set_cons_succ, hG] at hO); clear hG; have hF := hO; (try simp only [Own, Item.Holds, apartI, CellsAt, Nat.reduceAdd, Nat.zero_add, List.mem_cons, List.not_mem_nil, or_false, forall_eq_or_imp, forall_eq, ne_eq, false_imp_iff, implies_true, and_true] at hF)))
      go_wp2_with (go_at_call 15; apply own_at hO; (repeat (first | (with_reducible exact hO) | (with_reducible apply Own.alloc) | (with_reducible apply Own.drew) | ((with_reducible apply Own.set_at); (focus (show _ ≤ _; omega))))); have hG := hF; clear hF; clear hO; intro hO; refine own_call hO (fun hB => HV.out _ hB) ?_; clear hO; intro w1 hO; (try simp only [World.size_alloc1, World.size_drew, Nat.reduceAdd] at hO); (try simp only [upd, updI, List.map_cons, List.map_nil, eq_self, if_true, if_false, reduceIte, Nat.add_eq_left, Nat.left_eq_add, Nat.reduceEqDiff, List.set_cons_zero, List.set_cons_succ, hG] at hO); clear hG; have hF := hO; (try simp only [Own, Item.Holds, apartI, CellsAt, Nat.reduceAdd, Nat.zero_add, List.mem_cons, List.not_mem_nil, or_false, forall_eq_or_imp, forall_eq, ne_eq, false_imp_iff, implies_true, and_true] at hF))
      go_wp2_with (go_at_call 12; apply own_at hO; (repeat (first | (with_reducible exact hO) | (with_reducible apply Own.alloc) | (with_reducible apply Own.drew) | ((with_reducible apply Own.set_at); (focus (show _ ≤ _; omega))))); have hG := hF; clear hF; clear hO; intro hO; refine own_call hO (fun hB => alive_any _ (HT.out.below hB)) ?_; clear hO; intro w1 hO; (try simp only [World.size_alloc1, World.size_drew, Nat.reduceAdd] at hO); (try simp only [upd, updI, List.map_cons, List.map_nil, eq_self, if_true, if_false, reduceIte, Nat.add_eq_left, Nat.left_eq_add, Nat.reduceEqDiff, List.set_cons_zero, List.set_cons_succ, hG] at hO); clear hG; have hF := hO; (try simp only [Own, Item.Holds, apartI, CellsAt, Nat.reduceAdd, Nat.zero_add, List.mem_cons, List.not_mem_nil, or_false, forall_eq_or_imp, forall_eq, ne_eq, false_imp_iff, implies_true, and_true] at hF))
      go_ret
      exact ⟨rfl, btr HB0.out (Own.base (by (repeat (first | (with_reducible exact hO) | (with_reducible apply Own.alloc) | (with_reducible apply Own.drew) | ((with_reducible apply Own.set_at); (focus (show _ ≤ _; omega)))))))⟩
    · rw [poL_yes ho] at HI HS HAI
      have hp := po_len ho
      have HST := hid (fun k => ss_take ho k)
      have HAT := hid (fun k s (h : l[k]? = some s) => ss_at ho h)
      have HBAR := hid (fun k s (h : l[k]? = some s) b (h0 : 0 ≤ b) (h1 : b < s.b) => pl_bar' ho h h0 h1)
      have HEND := hid (fun k s (h : l[k]? = some s) j x (hx : s.e[j]? = some x) b (h0 : 0 ≤ b) (h1 : b < x) => pl_end' ho h hx h0 h1)
      obtain ⟨O, hO'⟩ : ∃ O, plL 0 l = O := ⟨_, rfl⟩
      rw [hO'] at HI HS HAI HBAR HEND hp
      obtain ⟨K, hK⟩ : ∃ K, O.length = K := ⟨_, rfl⟩
      have HK := hid hK
      rw [hK] at HI HS hp
      have k7 : K ≤ 768 := by omega
      obtain ⟨A, c, rfl, hA⟩ := hS.at.open
      obtain ⟨m, hm⟩ : ∃ m, l.length = m := ⟨_, rfl⟩
      have HM := hid hm
      rw [hm] at HI HS HV hA hl9
      rw [hm]
      clear hb0 hs hS hle hn9 ho hO' hK hp hm
      go_wp2_with ((go_at_call 19; apply own_at hO; (repeat (first | (with_reducible exact hO) | (with_reducible apply Own.alloc) | (with_reducible apply Own.drew) | ((with_reducible apply Own.set_at); (focus (show _ ≤ _; omega))))); have hG := hF; clear hF; clear hO; intro hO; refine own_call_row hO (fun hB => HI.out _ hB) ?_; clear hO; intro v w1 hO; (try simp only [World.size_alloc1, World.size_drew, Nat.reduceAdd] at hO); (try simp only [upd, updI, List.map_cons, List.map_nil, eq_self, if_true, if_false, reduceIte, Nat.add_eq_left, Nat.left_eq_add, Nat.reduceEqDiff, List.set_cons_zero, List.set_cons_succ, hG] at hO); clear hG; have hF := hO; (try simp only [Own, Item.Holds, apartI, CellsAt, Nat.reduceAdd, Nat.zero_add, List.mem_cons, List.not_mem_nil, or_false, forall_eq_or_imp, forall_eq, ne_eq, false_imp_iff, implies_true, and_true] at hF)); obtain ⟨A1, cp1, hv1⟩ := (SlAt.of_row hO.1.1).form; subst hv1)
      go_wp2_with (first | (go_at_call 22; apply own_at hO; (repeat (first | (with_reducible exact hO) | (with_reducible apply Own.alloc) | (with_reducible apply Own.drew) | ((with_reducible apply Own.set_at); (focus (show _ ≤ _; omega))))); have hG := hF; clear hF; clear hO; intro hO; refine own_call_row hO (fun hB => HS.out _ hB) ?_; clear hO; intro v w1 hO; (try simp only [World.size_alloc1, World.size_drew, Nat.reduceAdd] at hO); (try simp only [upd, updI, List.map_cons, List.map_nil, eq_self, if_true, if_false, reduceIte, Nat.add_eq_left, Nat.left_eq_add, Nat.reduceEqDiff, List.set_cons_zero, List.set_cons_succ, hG] at hO); clear hG; have hF := hO; (try simp only [Own, Item.Holds, apartI, CellsAt, Nat.reduceAdd, Nat.zero_add, List.mem_cons, List.not_mem_nil, or_false, forall_eq_or_imp, forall_eq, ne_eq, false_imp_iff, implies_true, and_true] at hF)) | (go_at_call 21; apply own_at hO; (repeat (first | (with_reducible exact hO) | (with_reducible apply Own.alloc) | (with_reducible apply Own.drew) | ((with_reducible apply Own.set_at); (focus (show _ ≤ _; omega))))); have hG := hF; clear hF; clear hO; intro hO; refine own_callO hO (fun hW => sameInts_same _ _ K (inC O) _ (SlAt.of_row hW.2.1.1) (SlAt.of_row hW.1.1) HAI.out) ?_; clear hO; intro w1 hO; (try simp only [World.size_alloc1, World.size_drew, Nat.reduceAdd] at hO); (try simp only [upd, updI, List.map_cons, List.map_nil, eq_self, if_true, if_false, reduceIte, Nat.add_eq_left, Nat.left_eq_add, Nat.reduceEqDiff, List.set_cons_zero, List.set_cons_succ, hG] at hO); clear hG; have hF := hO; (try simp only [Own, Item.Holds, apartI, CellsAt, Nat.reduceAdd, Nat.zero_add, List.mem_cons, List.not_mem_nil, or_false, forall_eq_or_imp, forall_eq, ne_eq, false_imp_iff, implies_true, and_true] at hF)))
      go_wp2_with (go_at_call 15; apply own_at hO; (repeat (first | (with_reducible exact hO) | (with_reducible apply Own.alloc) | (with_reducible apply Own.drew) | ((with_reducible apply Own.set_at); (focus (show _ ≤ _; omega))))); have hG := hF; clear hF; clear hO; intro hO; refine own_call hO (fun hB => HV.out _ hB) ?_; clear hO; intro w1 hO; (try simp only [World.size_alloc1, World.size_drew, Nat.reduceAdd] at hO); (try simp only [upd, updI, List.map_cons, List.map_nil, eq_self, if_true, if_false, reduceIte, Nat.add_eq_left, Nat.left_eq_add, Nat.reduceEqDiff, List.set_cons_zero, List.set_cons_succ, hG] at hO); clear hG; have hF := hO; (try simp only [Own, Item.Holds, apartI, CellsAt, Nat.reduceAdd, Nat.zero_add, List.mem_cons, List.not_mem_nil, or_false, forall_eq_or_imp, forall_eq, ne_eq, false_imp_iff, implies_true, and_true] at hF))
      replace hO := hO.drop
      clear hF
      have hF := hO; (try simp only [Own, Item.Holds, apartI, CellsAt, Nat.reduceAdd, Nat.zero_add, List.mem_cons, List.not_mem_nil, or_false, forall_eq_or_imp, forall_eq, ne_eq, false_imp_iff, implies_true, and_true] at hF)
      clear hF
      have OB := hid (fun (W : World) (L : List Item) (h : Own wd.heap.size (Below wd.heap.size wd) W (.row 3 1 (.slice A1 K cp1) K (inC O) :: L)) (i : Nat) (hi : i < K) => show ∃ q z, A1 = some ⟨q, 0, none⟩ ∧ K ≤ cp1 ∧ cp1 ≤ 9223372036854775807 ∧ O[i]? = some z ∧ W.cell? ⟨q, i, none⟩ = some (.int .i64 z) from by
        obtain ⟨q, cp, hq, q1, q2⟩ := h.row_open (by omega)
        cases hq
        unfold maxLen at q2
        obtain ⟨z, hz⟩ : ∃ z, O[i]? = some z := ⟨_, List.getElem?_eq_getElem (by have := HK.out; omega)⟩
        exact ⟨q, z, rfl, q1, q2, hz, h.row_cell (by rw [List.getElem?_map, hz]; rfl)⟩)
      go_loopw [5, 6] (fun z t wr => ∃ k : Nat, k ≤ m ∧ t = .int .i64 k ∧ z = .int .i64 (wrN (l.take k)) ∧ Own wd.heap.size (Below wd.heap.size wd) wr [.row 3 1 (.slice A1 K cp1) K (inC O)]) (fun _ t _ => m - (intOf t).toNat)
      case atStart => exact ⟨0, by omega, rfl, rfl, hO⟩
      case round =>
        clear hO
        obtain ⟨k, hk, rfl, rfl, hO⟩ := hrel
        have hF := True.intro
        have sb := HST.out k
        by_cases hend : k = m
        · subst hend
          go_wp2_with fail
          go_ret
          exact ⟨rfl, btr HB0.out hO.base⟩
        · have hlt : k < m := by omega
          have hlt2 : (k : Int) < m := by omega
          obtain ⟨b', off, rfl, hc1, hc2, hb, hcell⟩ := hA (by omega)
          obtain ⟨s, hs⟩ : ∃ s, l[k]? = some s := ⟨_, List.getElem?_eq_getElem (by have := HM.out; omega)⟩
          obtain ⟨ev, hev, d0, d1, d2⟩ := hcell k s hs
          have hse := HAT.out k s hs
          have hst := se_take hse
          obtain ⟨B, eo, rfl, hB⟩ := hev.open (by have := (hst 0).2.2; omega)
          obtain ⟨hsx, bb, tb, _⟩ := seB_iff.1 hse
          have HBK := hid (fun b h0 h1 => HBAR.out k s hs b h0 h1)
          have HEK := hid (fun j x hx b h0 h1 => HEND.out k s hs j x hx b h0 h1)
          have HU := hid (wrN_take_up hs)
          have HSX := hid hsx
          have HST2 := hid hst
          obtain ⟨p, hp⟩ : ∃ p, s.e.length = p := ⟨_, rfl⟩
          have HPP := hid hp
          have p4 := (hst 0).2.2
          rw [hp] at hB d2 p4
          have HG := hid (fun (W : World) (hW : Below wd.heap.size wd W) => (show W.cell? ⟨b', off + k * 3, none⟩ = _ ∧ W.cell? ⟨b', off + k * 3 + 1, none⟩ = _ ∧ W.cell? ⟨b', off + k * 3 + 2, none⟩ = _ from ⟨((bcell hW).1 b' (off + k * 3) hb).trans d0, ((bcell hW).1 b' (off + k * 3 + 1) hb).trans d1, ((bcell hW).1 b' (off + k * 3 + 2) hb).trans d2⟩))
          have HB2 := hid hB
          obtain ⟨S, hS⟩ : ∃ S, wrN (l.take k) = S := ⟨_, rfl⟩
          rw [hS] at sb HBK HEK HU
          rw [hS]
          have HKK := hid (And.intro hk hlt)
          clear hend hs hcell hev d0 d1 d2 hse hst hS hp hk hlt hB hsx
          go_wp2_with fail
          go_loopw [7] (fun t wr => ∃ j : Nat, (j : Int) ≤ s.b ∧ t = .int .i64 j ∧ Own wd.heap.size (Below wd.heap.size wd) wr [.row 3 1 (.slice A1 K cp1) K (inC O)]) (fun t _ => (s.b - intOf t).toNat)
          case atStart => exact ⟨0, by omega, rfl, hO⟩
          case round =>
            clear hO
            obtain ⟨j, hj, rfl, hO⟩ := hrel
            obtain ⟨g0, g1, g2⟩ := HG.out wr hO.base
            by_cases hje : (j : Int) = s.b
            · have j1 : ¬ ((j : Int) < s.b) := by omega
              have HSE0 := hid (show S + s.b + sumI (s.e.take 0) = S + s.b by simp [sumI])
              clear hje hj
              go_wp2_with fail
              clear g0 g1 g2
              go_loopw [5, 10] (fun z t wr => ∃ e : Nat, e ≤ p ∧ t = .int .i64 e ∧ z = .int .i64 (S + s.b + sumI (s.e.take e)) ∧ Own wd.heap.size (Below wd.heap.size wd) wr [.row 3 1 (.slice A1 K cp1) K (inC O)]) (fun _ t _ => p - (intOf t).toNat)
              case atStart => exact ⟨0, by omega, rfl, by rw [HSE0.out], hO⟩
              case round =>
                clear hO
                obtain ⟨e, he, rfl, rfl, hO⟩ := hrel
                obtain ⟨g0, g1, g2⟩ := HG.out wr hO.base
                by_cases hee : e = p
                · subst hee
                  have HZ := hid (show S + s.b + sumI (s.e.take e) = wrN (l.take (k + 1)) by rw [HU.out, ← HPP.out, List.take_length]; unfold wrS; omega)
                  rw [HZ.out]
                  go_wp2_with fail
                  go_roundw
                  case rel => exact ⟨k + 1, by have := HKK.out; omega, by go_num, rfl, hO⟩
                  case measure => have := HKK.out; simp [intOf]; omega
                · have hel : e < p := by omega
                  have hel2 : (e : Int) < p := by omega
                  obtain ⟨b2, off2, rfl, q1, q2, q3, hx2⟩ := HB2.out (by omega)
                  obtain ⟨x, hx⟩ : ∃ x, s.e[e]? = some x := ⟨_, List.getElem?_eq_getElem (by have := HPP.out; omega)⟩
                  have HGX := hid (fun (W : World) (hW : Below wd.heap.size wd W) => ((bcell hW).1 b2 (off2 + e) q3).trans (hx2 e x hx))
                  have xb := HSX.out x (List.mem_of_getElem? hx)
                  have tb2 := HST2.out e
                  have HEX := hid (fun b h0 h1 => HEK.out e x hx b h0 h1)
                  have HTU := hid (sum_take_up hx)
                  obtain ⟨E, hE⟩ : ∃ E, S + s.b + sumI (s.e.take e) = E := ⟨_, rfl⟩
                  have HEE := hid hE
                  have eb : 0 ≤ E ∧ E ≤ 1000 := by omega
                  rw [hE] at HEX
                  rw [hE]
                  have HLL := hid (And.intro he hel)
                  clear hee hx hx2 hE tb2 he hel
                  go_wp2_with fail
                  clear g0 g1 g2
                  go_loopw [5, 11] (fun z t wr => ∃ b : Nat, (b : Int) ≤ x ∧ t = .int .i64 b ∧ z = .int .i64 (E + b) ∧ Own wd.heap.size (Below wd.heap.size wd) wr [.row 3 1 (.slice A1 K cp1) K (inC O)]) (fun _ t _ => (x - intOf t).toNat)
                  case atStart => exact ⟨0, by omega, rfl, by simp, hO⟩
                  case round =>
                    clear hO
                    obtain ⟨b, hb, rfl, rfl, hO⟩ := hrel
                    obtain ⟨g0, g1, g2⟩ := HG.out wr hO.base
                    have g3 := HGX.out wr hO.base
                    by_cases hbe : (b : Int) = x
                    · have b1 : ¬ ((b : Int) < x) := by omega
                      have HZ := hid (show E + (b : Int) = S + s.b + sumI (s.e.take (e + 1)) by rw [HTU.out, ← HEE.out]; omega)
                      rw [HZ.out]
                      clear hbe hb
                      go_wp2_with fail
                      go_roundw
                      case rel => exact ⟨e + 1, by have := HLL.out; omega, by go_num, rfl, hO⟩
                      case measure => have := HLL.out; simp [intOf]; omega
                    · have hbl : (b : Int) < x := by omega
                      have HBB := hid (And.intro hb hbl)
                      have HCC := hid (HEX.out (b : Int) (by omega) hbl)
                      obtain ⟨Y, hY⟩ : ∃ Y, E + (b : Int) = Y := ⟨_, rfl⟩
                      have HY := hid hY
                      have yb : 0 ≤ Y ∧ Y ≤ 2000 := by omega
                      rw [hY] at HCC
                      rw [hY]
                      clear hbe hb hY
                      go_wp2_with fail
                      clear g0 g1 g2 g3
                      go_loopw [12, 13] (fun c t wr => ∃ i : Nat, i ≤ K ∧ t = .int .i64 i ∧ c = .int .i64 ((O.take i).count Y : Int) ∧ Own wd.heap.size (Below wd.heap.size wd) wr [.row 3 1 (.slice A1 K cp1) K (inC O)]) (fun _ t _ => K - (intOf t).toNat)
                      case atStart => exact ⟨0, by omega, rfl, rfl, hO⟩
                      case round =>
                        clear hO
                        obtain ⟨i, hi, rfl, rfl, hO⟩ := hrel
                        have cl : (O.take i).count Y ≤ i := Nat.le_trans List.count_le_length (by rw [List.length_take]; omega)
                        by_cases hie : i = K
                        · subst hie
                          rw [show O.take i = O by rw [← HK.out, List.take_length], HCC.out]
                          clear cl
                          go_wp2_with fail
                          go_roundw
                          case rel => exact ⟨b + 1, by have := HBB.out; omega, by go_num, by rw [← HY.out]; congr 1; push_cast; omega, hO⟩
                          case measure => have := HBB.out; simp [intOf]; omega
                        · have hil : i < K := by omega
                          have hil2 : (i : Int) < K := by omega
                          obtain ⟨q, z, rfl, q1, q2, hz, g0⟩ := OB.out wr _ hO i hil
                          have HCU := hid (count_up Y hz)
                          obtain ⟨C, hC⟩ : ∃ C : Nat, (O.take i).count Y = C := ⟨_, rfl⟩
                          rw [hC] at HCU cl
                          rw [hC]
                          clear hie hz hC
                          by_cases hzy : z = Y
                          · subst hzy
                            rw [if_pos rfl] at HCU
                            go_wp2_with fail
                            go_roundw
                            case rel => exact ⟨i + 1, by omega, by go_num, by rw [HCU.out], hO⟩
                            case measure => simp [intOf]; omega
                          · rw [if_neg hzy] at HCU
                            go_wp2_with fail
                            go_roundw
                            case rel => exact ⟨i + 1, by omega, by go_num, by rw [HCU.out]; simp, hO⟩
                            case measure => simp [intOf]; omega
            · have hjl : (j : Int) < s.b := by omega
              have HJJ := hid (And.intro hj hjl)
              have HCC := hid (HBK.out (j : Int) (by omega) hjl)
              obtain ⟨Y, hY⟩ : ∃ Y, S + (j : Int) = Y := ⟨_, rfl⟩
              have HY := hid hY
              rw [hY] at HCC
              have wy : IntKind.i64.wrap (S + (j : Int)) = Y := by rw [hY]; exact IntWalk.i64_in _ (by omega)
              clear hje hj hY
              go_wp2_with fail
              clear g0 g1 g2
              go_loopw [8, 9] (fun c t wr => ∃ i : Nat, i ≤ K ∧ t = .int .i64 i ∧ c = .int .i64 ((O.take i).count Y : Int) ∧ Own wd.heap.size (Below wd.heap.size wd) wr [.row 3 1 (.slice A1 K cp1) K (inC O)]) (fun _ t _ => K - (intOf t).toNat)
              case atStart => exact ⟨0, by omega, rfl, rfl, hO⟩
              case round =>
                clear hO
                obtain ⟨i, hi, rfl, rfl, hO⟩ := hrel
                have cl : (O.take i).count Y ≤ i := Nat.le_trans List.count_le_length (by rw [List.length_take]; omega)
                by_cases hie : i = K
                · subst hie
                  rw [show O.take i = O by rw [← HK.out, List.take_length], HCC.out]
                  obtain ⟨g0, g1, g2⟩ := HG.out wr hO.base
                  clear cl
                  go_wp2_with fail
                  go_roundw
                  case rel => exact ⟨j + 1, by have := HJJ.out; omega, by go_num, hO⟩
                  case measure => have := HJJ.out; simp [intOf]; omega
                · have hil : i < K := by omega
                  have hil2 : (i : Int) < K := by omega
                  obtain ⟨q, z, rfl, q1, q2, hz, g0⟩ := OB.out wr _ hO i hil
                  have HCU := hid (count_up Y hz)
                  obtain ⟨C, hC⟩ : ∃ C : Nat, (O.take i).count Y = C := ⟨_, rfl⟩
                  rw [hC] at HCU cl
                  rw [hC]
                  clear hie hz hC
                  by_cases hzy : z = Y
                  · subst hzy
                    rw [if_pos rfl] at HCU
                    go_wp2_with fail
                    go_roundw
                    case rel => exact ⟨i + 1, by omega, by go_num, by rw [HCU.out], hO⟩
                    case measure => simp [intOf]; omega
                  · rw [if_neg hzy] at HCU
                    go_wp2_with fail
                    go_roundw
                    case rel => exact ⟨i + 1, by omega, by go_num, by rw [HCU.out]; simp, hO⟩
                    case measure => simp [intOf]; omega
  · have hl' : 1048576 < (n : Int) := by omega
    go_enter Tryd.func6, Tryd.ntmps6
    go_wp2
    go_ret
    exact ⟨rfl, Below.refl _ _⟩
end Go.Proofs.YtpfefbpmchigeaaDoor
