/- The walk of FnMeetTicks, from what the functions answer. -/
import Derived.Test.YtlbagckpmpdkiaaDoorDraws16
import Derived.Test.YtlbagckpmpdkiaaDoorCon16
import Derived.Test.YtlbagckpmpdkiaaDoorCon5
import Derived.Test.YtlbagckpmpdkiaaDoorPure16B
import Derived.Test.YtlbagckpmpdkiaaDoorWalksPS
import Derived.Test.YtlbagckpmpdkiaaDoorLawsPitch
import Derived.Test.YtlbagckpmpdkiaaDoorRegionD
namespace Go.Proofs.YtlbagckpmpdkiaaDoor
set_option linter.unusedSimpArgs false
set_option linter.unusedVariables false
set_option maxRecDepth 8000
open Go.RowKit

/- The ticks, one behind the other. -/
theorem mt_first {a b : List Nt} {k : Nat} {t : Int} (h : (mtL a b)[k]? = some t) : (k = 0 → t = 0) ∧ (1 ≤ k → 0 < t) := by
  have hm := mt_mem (List.mem_of_getElem? h)
  have hz : (0 : Int) ∈ mtL a b := by
    unfold mtL
    rw [if_pos (by unfold bvB; rw [hm.1, hm.2.1]; rfl), onL_mem]
    exact ⟨by omega, by omega, Or.inl (onB_zero a)⟩
  have hp : (mtL a b).Pairwise (fun x y => x < y) := by
    unfold mtL
    split
    · exact onL_asc _ _ _
    · exact List.Pairwise.nil
  obtain ⟨j, hj, hj0⟩ := List.mem_iff_getElem.1 hz
  obtain ⟨hk, hkt⟩ := List.getElem?_eq_some_iff.1 h
  have hlt := List.pairwise_iff_getElem.1 hp
  refine ⟨fun e => ?_, fun e => ?_⟩
  · subst e
    by_cases h0 : j = 0
    · subst h0; rw [hkt] at hj0; exact hj0
    · have := hlt 0 j hk hj (by omega)
      rw [hkt, hj0] at this
      omega
  · by_cases h0 : j < k
    · have := hlt j k hj hk h0
      rw [hkt, hj0] at this
      exact this
    · by_cases h1 : j = k
      · subst h1
        have := hlt 0 j (by omega) hj (by omega)
        rw [hj0] at this
        have hm0 := mt_mem (List.getElem_mem (l := mtL a b) (n := 0) (by omega))
        omega
      · have := hlt k j hk hj (by omega)
        rw [hkt, hj0] at this
        omega
theorem mt_at16 {a b : List Nt} {k : Nat} {s t : Int} (hs : (mtL a b)[k]? = some s) (h : (mtL a b)[k + 1]? = some t) : s < t := by
  have hp : (mtL a b).Pairwise (fun x y => x < y) := by
    unfold mtL
    split
    · exact onL_asc _ _ _
    · exact List.Pairwise.nil
  obtain ⟨h1, h2⟩ := List.getElem?_eq_some_iff.1 hs
  obtain ⟨h3, h4⟩ := List.getElem?_eq_some_iff.1 h
  have := List.pairwise_iff_getElem.1 hp k (k + 1) h1 h3 (by omega)
  rw [h2, h4] at this
  exact this
theorem mt_turn {a b : List Nt} {k : Nat} {t : Int} (hk : 1 ≤ k) (h : (mtL a b)[k]? = some t) : ¬ naZ a t = naZ a (t - 1) ∨ ¬ naZ b t = naZ b (t - 1) := by
  have hm := mt_mem (List.mem_of_getElem? h)
  have h0 := (mt_first h).2 hk
  rcases hm.2.2.2.2 with g | g
  · exact Or.inl (na_on hm.1 h0 g)
  · exact Or.inr (na_on hm.2.1 h0 g)

theorem voT16 {va : Value} {v : List Nt} {n : Nat} {w : World} {z : Bool} (hl : v.length = n) (ha : SlAt w va n 6 (vcC v)) (hn : n ≤ 1048576) (h : voB v = z) (W : World) (hW : Below w.heap.size w W) :
    Calls Tryd.prog 17 #[va] W fun e w' => e = .returned (.bool z) ∧ Below W.heap.size W w' := by
  subst hl h; exact voS_any va v W (ha.below hW) hn
theorem vtT16 {va : Value} {v : List Nt} {n : Nat} {w : World} {z : Int} (hI : CInt 19 vtZ w) (hl : v.length = n) (ha : SlAt w va n 6 (vcC v)) (hn : n ≤ 1048576) (h : vtZ v = z) (W : World) (hW : Below w.heap.size w W) :
    Calls Tryd.prog 19 #[va] W fun e w' => e = .returned (.int .i64 z) ∧ Below W.heap.size W w' := by
  subst hl h; exact hI va v W hW (ha.below hW) hn
theorem naT16 {va : Value} {v : List Nt} {n : Nat} {t : Int} {w : World} {z : Int} (hI : CNote 20 w) (hl : v.length = n) (ha : SlAt w va n 6 (vcC v)) (hn : n ≤ 1048576) (h0 : -1 ≤ t) (ht : t ≤ 100000) (h : naZ v t = z) (W : World) (hW : Below w.heap.size w W) :
    Calls Tryd.prog 20 #[va, .int .i64 t] W fun e w' => e = .returned (.int .i64 z) ∧ Below W.heap.size W w' := by
  subst hl h; exact hI va v t W hW (ha.below hW) hn (by omega) (by omega)

set_option maxRecDepth 20000 in
set_option maxHeartbeats 16000000 in
theorem fnMeetTicks_of (v : Value) (n0 : Nat) (w : World) (hn : n0 ≤ maxLen) (h : BytesB w w.heap.size v n0) (ht : TabH w)
    (hS : CMt 16 w) (hI : CMt 14 w) (hV : CInt 19 vtZ w) (hN : CNote 20 w) :
    Calls Tryd.prog 3 #[v] w fun e w' => e = .returned (.bool true) ∧ Below w.heap.size w w' := by
  obtain ⟨a0, c0, rfl⟩ := h.form
  have hn' : (n0 : Int) ≤ 9223372036854775807 := by unfold maxLen at hn; omega
  by_cases hl : n0 ≤ 1048576
  · have hl' : (n0 : Int) ≤ 1048576 := by omega
    go_enter Tryd.func3, Tryd.ntmps3
    go_wp2_with (go_at_call 13; refine (DrawMeetTicks_any _ n0 _ hn h).mono ?_; rintro e wd ⟨va, a, vb, b, _, la, _, lb, rfl, hO1⟩)
    have hb0 := hO1.base
    have HT := hid (ht.below hb0)
    have HB0 := hid hb0
    have hs := SlAt.of_row hO1.2.1.1
    have hs' := SlAt.of_row hO1.1.1
    have hO := Own.start wd
    have hF := True.intro
    obtain ⟨n, hna⟩ : ∃ n, a.length = n := ⟨_, rfl⟩
    obtain ⟨m, hmb⟩ : ∃ n, b.length = n := ⟨_, rfl⟩
    rw [hna] at hs la
    rw [hmb] at hs' lb
    have HA := hid hs
    have HB := hid hs'
    obtain ⟨A1, k1, rfl⟩ := hs.form
    obtain ⟨A2, k2, rfl⟩ := hs'.form
    obtain ⟨u, hu⟩ : ∃ z, mtL a b = z := ⟨_, rfl⟩
    obtain ⟨k, hk⟩ : ∃ z, u.length = z := ⟨_, rfl⟩
    have hk9 : k ≤ n + m := by rw [← hk, ← hu, ← hna, ← hmb]; exact mt_len a b
    have n1 : n ≤ 1048576 := by omega
    have m1 : m ≤ 1048576 := by omega
    have HI := hid ((hI.to hb0).is hna hmb n1 m1 hu hk)
    have HS := hid ((hS.to hb0).is hna hmb n1 m1 hu hk)
    have HJ := hid ((hI.to hb0).is hmb hna m1 n1 ((mt_comm b a).trans hu) hk)
    have hul : (intC u).length = k := by rw [intC_len, hk]
    have hu9 := intC_int u
    have HG := hid (fun va vb W (h1 : SlAt W va k 1 (intC u)) (h2 : SlAt W vb k 1 (intC u)) => sameInts_same va vb k (intC u) W h1 h2 hu9)
    obtain ⟨x, hx⟩ : ∃ b, voB a = b := ⟨_, rfl⟩
    obtain ⟨y, hy⟩ : ∃ c, voB b = c := ⟨_, rfl⟩
    have HV1 := hid (voT16 hna hs n1 hx)
    have HV2 := hid (voT16 hmb hs' m1 hy)
    have hV' : CInt 19 vtZ wd := fun va v W hW => hV va v W (btr hb0 hW)
    have hN' : CNote 20 wd := fun va v t W hW => hN va v t W (btr hb0 hW)
    have hnm : (n : Int) + (m : Int) ≤ 200 := by omega
    have wnm : IntKind.i64.wrap ((n : Int) + (m : Int)) = (n : Int) + (m : Int) := IntWalk.i64_in _ (by omega)
    cases hxy : x && y
    · have hk0 : k = 0 := by
        rw [← hk, ← hu]
        unfold mtL bvB
        rw [hx, hy, hxy]; rfl
      subst hk0
      clear hn h ht hS hI hV hN hb0 hs hs' hO1 hna hmb hu hk hul hu9 hx hy hV' hN' n1 m1 la lb hk9
      have hc : x = false ∨ (x = true ∧ y = false) := by cases x <;> cases y <;> simp at hxy ⊢
      rcases hc with rfl | ⟨rfl, rfl⟩
      · go_wp2_with fail
        (go_at_call 14; apply own_at hO; (repeat (first | (with_reducible exact hO) | (with_reducible apply Own.alloc) | (with_reducible apply Own.drew) | ((with_reducible apply Own.set_at); (focus (show _ ≤ _; omega))))); have hG := hF; clear hF; clear hO; intro hO; refine own_call_row hO (fun hB => HI.out _ _ _ hB (HA.out.below hB) (HB.out.below hB)) ?_; clear hO; intro v w1 hO; (try simp only [World.size_alloc1, World.size_drew, Nat.reduceAdd] at hO); (try simp only [upd, updI, List.map_cons, List.map_nil, eq_self, if_true, if_false, reduceIte, Nat.add_eq_left, Nat.left_eq_add, Nat.reduceEqDiff, List.set_cons_zero, List.set_cons_succ, hG] at hO); clear hG; have hF := hO; (try simp only [Own, Item.Holds, apartI, CellsAt, Nat.reduceAdd, Nat.zero_add, List.mem_cons, List.not_mem_nil, or_false, forall_eq_or_imp, forall_eq, ne_eq, false_imp_iff, implies_true, and_true] at hF))
        obtain ⟨A3, k3, hv3⟩ := (SlAt.of_row hO.1.1).form
        subst hv3
        go_wp2_with fail
        (go_at_call 16; apply own_at hO; (repeat (first | (with_reducible exact hO) | (with_reducible apply Own.alloc) | (with_reducible apply Own.drew) | ((with_reducible apply Own.set_at); (focus (show _ ≤ _; omega))))); have hG := hF; clear hF; clear hO; intro hO; refine own_call_row hO (fun hB => HS.out _ _ _ hB (HA.out.below hB) (HB.out.below hB)) ?_; clear hO; intro v w1 hO; (try simp only [World.size_alloc1, World.size_drew, Nat.reduceAdd] at hO); (try simp only [upd, updI, List.map_cons, List.map_nil, eq_self, if_true, if_false, reduceIte, Nat.add_eq_left, Nat.left_eq_add, Nat.reduceEqDiff, List.set_cons_zero, List.set_cons_succ, hG] at hO); clear hG; have hF := hO; (try simp only [Own, Item.Holds, apartI, CellsAt, Nat.reduceAdd, Nat.zero_add, List.mem_cons, List.not_mem_nil, or_false, forall_eq_or_imp, forall_eq, ne_eq, false_imp_iff, implies_true, and_true] at hF))
        obtain ⟨A4, k4, hv4⟩ := (SlAt.of_row hO.1.1).form
        subst hv4
        go_wp2_with fail
        (go_at_call 15; apply own_at hO; (repeat (first | (with_reducible exact hO) | (with_reducible apply Own.alloc) | (with_reducible apply Own.drew) | ((with_reducible apply Own.set_at); (focus (show _ ≤ _; omega))))); have hG := hF; clear hF; clear hO; intro hO; refine own_callO hO (fun hW => HG.out _ _ _ (SlAt.of_row hW.2.1.1) (SlAt.of_row hW.1.1)) ?_; clear hO; intro w1 hO; (try simp only [World.size_alloc1, World.size_drew, Nat.reduceAdd] at hO); (try simp only [upd, updI, List.map_cons, List.map_nil, eq_self, if_true, if_false, reduceIte, Nat.add_eq_left, Nat.left_eq_add, Nat.reduceEqDiff, List.set_cons_zero, List.set_cons_succ, hG] at hO); clear hG; have hF := hO; (try simp only [Own, Item.Holds, apartI, CellsAt, Nat.reduceAdd, Nat.zero_add, List.mem_cons, List.not_mem_nil, or_false, forall_eq_or_imp, forall_eq, ne_eq, false_imp_iff, implies_true, and_true] at hF))
        go_wp2_with fail
        (go_at_call 14; apply own_at hO; (repeat (first | (with_reducible exact hO) | (with_reducible apply Own.alloc) | (with_reducible apply Own.drew) | ((with_reducible apply Own.set_at); (focus (show _ ≤ _; omega))))); have hG := hF; clear hF; clear hO; intro hO; refine own_call_row hO (fun hB => HJ.out _ _ _ hB (HB.out.below hB) (HA.out.below hB)) ?_; clear hO; intro v w1 hO; (try simp only [World.size_alloc1, World.size_drew, Nat.reduceAdd] at hO); (try simp only [upd, updI, List.map_cons, List.map_nil, eq_self, if_true, if_false, reduceIte, Nat.add_eq_left, Nat.left_eq_add, Nat.reduceEqDiff, List.set_cons_zero, List.set_cons_succ, hG] at hO); clear hG; have hF := hO; (try simp only [Own, Item.Holds, apartI, CellsAt, Nat.reduceAdd, Nat.zero_add, List.mem_cons, List.not_mem_nil, or_false, forall_eq_or_imp, forall_eq, ne_eq, false_imp_iff, implies_true, and_true] at hF))
        obtain ⟨A5, k5, hv5⟩ := (SlAt.of_row hO.1.1).form
        subst hv5
        go_wp2_with fail
        (go_at_call 15; apply own_at hO; (repeat (first | (with_reducible exact hO) | (with_reducible apply Own.alloc) | (with_reducible apply Own.drew) | ((with_reducible apply Own.set_at); (focus (show _ ≤ _; omega))))); have hG := hF; clear hF; clear hO; intro hO; refine own_callO hO (fun hW => HG.out _ _ _ (SlAt.of_row hW.2.2.1.1) (SlAt.of_row hW.1.1)) ?_; clear hO; intro w1 hO; (try simp only [World.size_alloc1, World.size_drew, Nat.reduceAdd] at hO); (try simp only [upd, updI, List.map_cons, List.map_nil, eq_self, if_true, if_false, reduceIte, Nat.add_eq_left, Nat.left_eq_add, Nat.reduceEqDiff, List.set_cons_zero, List.set_cons_succ, hG] at hO); clear hG; have hF := hO; (try simp only [Own, Item.Holds, apartI, CellsAt, Nat.reduceAdd, Nat.zero_add, List.mem_cons, List.not_mem_nil, or_false, forall_eq_or_imp, forall_eq, ne_eq, false_imp_iff, implies_true, and_true] at hF))
        go_wp2_with fail
        clear HI HS HJ HG
        (go_at_call 17; apply own_at hO; (repeat (first | (with_reducible exact hO) | (with_reducible apply Own.alloc) | (with_reducible apply Own.drew) | ((with_reducible apply Own.set_at); (focus (show _ ≤ _; omega))))); have hG := hF; clear hF; clear hO; intro hO; refine own_call hO (fun hB => HV1.out _ hB) ?_; clear hO; intro w1 hO; (try simp only [World.size_alloc1, World.size_drew, Nat.reduceAdd] at hO); (try simp only [upd, updI, List.map_cons, List.map_nil, eq_self, if_true, if_false, reduceIte, Nat.add_eq_left, Nat.left_eq_add, Nat.reduceEqDiff, List.set_cons_zero, List.set_cons_succ, hG] at hO); clear hG; have hF := hO; (try simp only [Own, Item.Holds, apartI, CellsAt, Nat.reduceAdd, Nat.zero_add, List.mem_cons, List.not_mem_nil, or_false, forall_eq_or_imp, forall_eq, ne_eq, false_imp_iff, implies_true, and_true] at hF))
        go_wp2_with (go_at_call 18; apply own_at hO; (repeat (first | (with_reducible exact hO) | (with_reducible apply Own.alloc) | (with_reducible apply Own.drew) | ((with_reducible apply Own.set_at); (focus (show _ ≤ _; omega))))); have hG := hF; clear hF; clear hO; intro hO; refine own_call hO (fun hB => alive_any _ (HT.out.below hB)) ?_; clear hO; intro w1 hO; (try simp only [World.size_alloc1, World.size_drew, Nat.reduceAdd] at hO); (try simp only [upd, updI, List.map_cons, List.map_nil, eq_self, if_true, if_false, reduceIte, Nat.add_eq_left, Nat.left_eq_add, Nat.reduceEqDiff, List.set_cons_zero, List.set_cons_succ, hG] at hO); clear hG; have hF := hO; (try simp only [Own, Item.Holds, apartI, CellsAt, Nat.reduceAdd, Nat.zero_add, List.mem_cons, List.not_mem_nil, or_false, forall_eq_or_imp, forall_eq, ne_eq, false_imp_iff, implies_true, and_true] at hF))
        go_ret
        exact ⟨rfl, btr HB0.out (Own.base (by first | exact hO | (repeat (first | (with_reducible exact hO) | (with_reducible apply Own.alloc) | (with_reducible apply Own.drew) | ((with_reducible apply Own.set_at); (focus (show _ ≤ _; omega)))))))⟩
      · go_wp2_with fail
        (go_at_call 14; apply own_at hO; (repeat (first | (with_reducible exact hO) | (with_reducible apply Own.alloc) | (with_reducible apply Own.drew) | ((with_reducible apply Own.set_at); (focus (show _ ≤ _; omega))))); have hG := hF; clear hF; clear hO; intro hO; refine own_call_row hO (fun hB => HI.out _ _ _ hB (HA.out.below hB) (HB.out.below hB)) ?_; clear hO; intro v w1 hO; (try simp only [World.size_alloc1, World.size_drew, Nat.reduceAdd] at hO); (try simp only [upd, updI, List.map_cons, List.map_nil, eq_self, if_true, if_false, reduceIte, Nat.add_eq_left, Nat.left_eq_add, Nat.reduceEqDiff, List.set_cons_zero, List.set_cons_succ, hG] at hO); clear hG; have hF := hO; (try simp only [Own, Item.Holds, apartI, CellsAt, Nat.reduceAdd, Nat.zero_add, List.mem_cons, List.not_mem_nil, or_false, forall_eq_or_imp, forall_eq, ne_eq, false_imp_iff, implies_true, and_true] at hF))
        obtain ⟨A3, k3, hv3⟩ := (SlAt.of_row hO.1.1).form
        subst hv3
        go_wp2_with fail
        (go_at_call 16; apply own_at hO; (repeat (first | (with_reducible exact hO) | (with_reducible apply Own.alloc) | (with_reducible apply Own.drew) | ((with_reducible apply Own.set_at); (focus (show _ ≤ _; omega))))); have hG := hF; clear hF; clear hO; intro hO; refine own_call_row hO (fun hB => HS.out _ _ _ hB (HA.out.below hB) (HB.out.below hB)) ?_; clear hO; intro v w1 hO; (try simp only [World.size_alloc1, World.size_drew, Nat.reduceAdd] at hO); (try simp only [upd, updI, List.map_cons, List.map_nil, eq_self, if_true, if_false, reduceIte, Nat.add_eq_left, Nat.left_eq_add, Nat.reduceEqDiff, List.set_cons_zero, List.set_cons_succ, hG] at hO); clear hG; have hF := hO; (try simp only [Own, Item.Holds, apartI, CellsAt, Nat.reduceAdd, Nat.zero_add, List.mem_cons, List.not_mem_nil, or_false, forall_eq_or_imp, forall_eq, ne_eq, false_imp_iff, implies_true, and_true] at hF))
        obtain ⟨A4, k4, hv4⟩ := (SlAt.of_row hO.1.1).form
        subst hv4
        go_wp2_with fail
        (go_at_call 15; apply own_at hO; (repeat (first | (with_reducible exact hO) | (with_reducible apply Own.alloc) | (with_reducible apply Own.drew) | ((with_reducible apply Own.set_at); (focus (show _ ≤ _; omega))))); have hG := hF; clear hF; clear hO; intro hO; refine own_callO hO (fun hW => HG.out _ _ _ (SlAt.of_row hW.2.1.1) (SlAt.of_row hW.1.1)) ?_; clear hO; intro w1 hO; (try simp only [World.size_alloc1, World.size_drew, Nat.reduceAdd] at hO); (try simp only [upd, updI, List.map_cons, List.map_nil, eq_self, if_true, if_false, reduceIte, Nat.add_eq_left, Nat.left_eq_add, Nat.reduceEqDiff, List.set_cons_zero, List.set_cons_succ, hG] at hO); clear hG; have hF := hO; (try simp only [Own, Item.Holds, apartI, CellsAt, Nat.reduceAdd, Nat.zero_add, List.mem_cons, List.not_mem_nil, or_false, forall_eq_or_imp, forall_eq, ne_eq, false_imp_iff, implies_true, and_true] at hF))
        go_wp2_with fail
        (go_at_call 14; apply own_at hO; (repeat (first | (with_reducible exact hO) | (with_reducible apply Own.alloc) | (with_reducible apply Own.drew) | ((with_reducible apply Own.set_at); (focus (show _ ≤ _; omega))))); have hG := hF; clear hF; clear hO; intro hO; refine own_call_row hO (fun hB => HJ.out _ _ _ hB (HB.out.below hB) (HA.out.below hB)) ?_; clear hO; intro v w1 hO; (try simp only [World.size_alloc1, World.size_drew, Nat.reduceAdd] at hO); (try simp only [upd, updI, List.map_cons, List.map_nil, eq_self, if_true, if_false, reduceIte, Nat.add_eq_left, Nat.left_eq_add, Nat.reduceEqDiff, List.set_cons_zero, List.set_cons_succ, hG] at hO); clear hG; have hF := hO; (try simp only [Own, Item.Holds, apartI, CellsAt, Nat.reduceAdd, Nat.zero_add, List.mem_cons, List.not_mem_nil, or_false, forall_eq_or_imp, forall_eq, ne_eq, false_imp_iff, implies_true, and_true] at hF))
        obtain ⟨A5, k5, hv5⟩ := (SlAt.of_row hO.1.1).form
        subst hv5
        go_wp2_with fail
        (go_at_call 15; apply own_at hO; (repeat (first | (with_reducible exact hO) | (with_reducible apply Own.alloc) | (with_reducible apply Own.drew) | ((with_reducible apply Own.set_at); (focus (show _ ≤ _; omega))))); have hG := hF; clear hF; clear hO; intro hO; refine own_callO hO (fun hW => HG.out _ _ _ (SlAt.of_row hW.2.2.1.1) (SlAt.of_row hW.1.1)) ?_; clear hO; intro w1 hO; (try simp only [World.size_alloc1, World.size_drew, Nat.reduceAdd] at hO); (try simp only [upd, updI, List.map_cons, List.map_nil, eq_self, if_true, if_false, reduceIte, Nat.add_eq_left, Nat.left_eq_add, Nat.reduceEqDiff, List.set_cons_zero, List.set_cons_succ, hG] at hO); clear hG; have hF := hO; (try simp only [Own, Item.Holds, apartI, CellsAt, Nat.reduceAdd, Nat.zero_add, List.mem_cons, List.not_mem_nil, or_false, forall_eq_or_imp, forall_eq, ne_eq, false_imp_iff, implies_true, and_true] at hF))
        go_wp2_with fail
        clear HI HS HJ HG
        (go_at_call 17; apply own_at hO; (repeat (first | (with_reducible exact hO) | (with_reducible apply Own.alloc) | (with_reducible apply Own.drew) | ((with_reducible apply Own.set_at); (focus (show _ ≤ _; omega))))); have hG := hF; clear hF; clear hO; intro hO; refine own_call hO (fun hB => HV1.out _ hB) ?_; clear hO; intro w1 hO; (try simp only [World.size_alloc1, World.size_drew, Nat.reduceAdd] at hO); (try simp only [upd, updI, List.map_cons, List.map_nil, eq_self, if_true, if_false, reduceIte, Nat.add_eq_left, Nat.left_eq_add, Nat.reduceEqDiff, List.set_cons_zero, List.set_cons_succ, hG] at hO); clear hG; have hF := hO; (try simp only [Own, Item.Holds, apartI, CellsAt, Nat.reduceAdd, Nat.zero_add, List.mem_cons, List.not_mem_nil, or_false, forall_eq_or_imp, forall_eq, ne_eq, false_imp_iff, implies_true, and_true] at hF))
        go_wp2_with fail
        (go_at_call 17; apply own_at hO; (repeat (first | (with_reducible exact hO) | (with_reducible apply Own.alloc) | (with_reducible apply Own.drew) | ((with_reducible apply Own.set_at); (focus (show _ ≤ _; omega))))); have hG := hF; clear hF; clear hO; intro hO; refine own_call hO (fun hB => HV2.out _ hB) ?_; clear hO; intro w1 hO; (try simp only [World.size_alloc1, World.size_drew, Nat.reduceAdd] at hO); (try simp only [upd, updI, List.map_cons, List.map_nil, eq_self, if_true, if_false, reduceIte, Nat.add_eq_left, Nat.left_eq_add, Nat.reduceEqDiff, List.set_cons_zero, List.set_cons_succ, hG] at hO); clear hG; have hF := hO; (try simp only [Own, Item.Holds, apartI, CellsAt, Nat.reduceAdd, Nat.zero_add, List.mem_cons, List.not_mem_nil, or_false, forall_eq_or_imp, forall_eq, ne_eq, false_imp_iff, implies_true, and_true] at hF))
        go_wp2_with (go_at_call 18; apply own_at hO; (repeat (first | (with_reducible exact hO) | (with_reducible apply Own.alloc) | (with_reducible apply Own.drew) | ((with_reducible apply Own.set_at); (focus (show _ ≤ _; omega))))); have hG := hF; clear hF; clear hO; intro hO; refine own_call hO (fun hB => alive_any _ (HT.out.below hB)) ?_; clear hO; intro w1 hO; (try simp only [World.size_alloc1, World.size_drew, Nat.reduceAdd] at hO); (try simp only [upd, updI, List.map_cons, List.map_nil, eq_self, if_true, if_false, reduceIte, Nat.add_eq_left, Nat.left_eq_add, Nat.reduceEqDiff, List.set_cons_zero, List.set_cons_succ, hG] at hO); clear hG; have hF := hO; (try simp only [Own, Item.Holds, apartI, CellsAt, Nat.reduceAdd, Nat.zero_add, List.mem_cons, List.not_mem_nil, or_false, forall_eq_or_imp, forall_eq, ne_eq, false_imp_iff, implies_true, and_true] at hF))
        go_ret
        exact ⟨rfl, btr HB0.out (Own.base (by first | exact hO | (repeat (first | (with_reducible exact hO) | (with_reducible apply Own.alloc) | (with_reducible apply Own.drew) | ((with_reducible apply Own.set_at); (focus (show _ ≤ _; omega)))))))⟩
    · obtain ⟨rfl, rfl⟩ : x = true ∧ y = true := by cases x <;> cases y <;> simp at hxy ⊢
      have HU := hid (And.intro hu hk)
      have HVV := hid (And.intro hx hy)
      have HVT := hid (fun z hz => vtT16 (z := z) hV' hna hs n1 hz)
      have HWT := hid (fun z hz => vtT16 (z := z) hV' hmb hs' m1 hz)
      have HNA := hid (fun t z h0 h1 hz => naT16 (t := t) (z := z) hN' hna hs n1 h0 h1 hz)
      have HNB := hid (fun t z h0 h1 hz => naT16 (t := t) (z := z) hN' hmb hs' m1 h0 h1 hz)
      have HKN := hid hk9
      clear hn h ht hS hI hV hN hb0 hs hs' hO1 hna hmb hu hk hul hu9 hx hy hV' hN' n1 m1 la lb hk9 hxy
      go_wp2_with fail
      (go_at_call 14; apply own_at hO; (repeat (first | (with_reducible exact hO) | (with_reducible apply Own.alloc) | (with_reducible apply Own.drew) | ((with_reducible apply Own.set_at); (focus (show _ ≤ _; omega))))); have hG := hF; clear hF; clear hO; intro hO; refine own_call_row hO (fun hB => HI.out _ _ _ hB (HA.out.below hB) (HB.out.below hB)) ?_; clear hO; intro v w1 hO; (try simp only [World.size_alloc1, World.size_drew, Nat.reduceAdd] at hO); (try simp only [upd, updI, List.map_cons, List.map_nil, eq_self, if_true, if_false, reduceIte, Nat.add_eq_left, Nat.left_eq_add, Nat.reduceEqDiff, List.set_cons_zero, List.set_cons_succ, hG] at hO); clear hG; have hF := hO; (try simp only [Own, Item.Holds, apartI, CellsAt, Nat.reduceAdd, Nat.zero_add, List.mem_cons, List.not_mem_nil, or_false, forall_eq_or_imp, forall_eq, ne_eq, false_imp_iff, implies_true, and_true] at hF))
      obtain ⟨A3, k3, hv3⟩ := (SlAt.of_row hO.1.1).form
      subst hv3
      go_wp2_with fail
      (go_at_call 16; apply own_at hO; (repeat (first | (with_reducible exact hO) | (with_reducible apply Own.alloc) | (with_reducible apply Own.drew) | ((with_reducible apply Own.set_at); (focus (show _ ≤ _; omega))))); have hG := hF; clear hF; clear hO; intro hO; refine own_call_row hO (fun hB => HS.out _ _ _ hB (HA.out.below hB) (HB.out.below hB)) ?_; clear hO; intro v w1 hO; (try simp only [World.size_alloc1, World.size_drew, Nat.reduceAdd] at hO); (try simp only [upd, updI, List.map_cons, List.map_nil, eq_self, if_true, if_false, reduceIte, Nat.add_eq_left, Nat.left_eq_add, Nat.reduceEqDiff, List.set_cons_zero, List.set_cons_succ, hG] at hO); clear hG; have hF := hO; (try simp only [Own, Item.Holds, apartI, CellsAt, Nat.reduceAdd, Nat.zero_add, List.mem_cons, List.not_mem_nil, or_false, forall_eq_or_imp, forall_eq, ne_eq, false_imp_iff, implies_true, and_true] at hF))
      obtain ⟨A4, k4, hv4⟩ := (SlAt.of_row hO.1.1).form
      subst hv4
      go_wp2_with fail
      (go_at_call 15; apply own_at hO; (repeat (first | (with_reducible exact hO) | (with_reducible apply Own.alloc) | (with_reducible apply Own.drew) | ((with_reducible apply Own.set_at); (focus (show _ ≤ _; omega))))); have hG := hF; clear hF; clear hO; intro hO; refine own_callO hO (fun hW => HG.out _ _ _ (SlAt.of_row hW.2.1.1) (SlAt.of_row hW.1.1)) ?_; clear hO; intro w1 hO; (try simp only [World.size_alloc1, World.size_drew, Nat.reduceAdd] at hO); (try simp only [upd, updI, List.map_cons, List.map_nil, eq_self, if_true, if_false, reduceIte, Nat.add_eq_left, Nat.left_eq_add, Nat.reduceEqDiff, List.set_cons_zero, List.set_cons_succ, hG] at hO); clear hG; have hF := hO; (try simp only [Own, Item.Holds, apartI, CellsAt, Nat.reduceAdd, Nat.zero_add, List.mem_cons, List.not_mem_nil, or_false, forall_eq_or_imp, forall_eq, ne_eq, false_imp_iff, implies_true, and_true] at hF))
      go_wp2_with fail
      (go_at_call 14; apply own_at hO; (repeat (first | (with_reducible exact hO) | (with_reducible apply Own.alloc) | (with_reducible apply Own.drew) | ((with_reducible apply Own.set_at); (focus (show _ ≤ _; omega))))); have hG := hF; clear hF; clear hO; intro hO; refine own_call_row hO (fun hB => HJ.out _ _ _ hB (HB.out.below hB) (HA.out.below hB)) ?_; clear hO; intro v w1 hO; (try simp only [World.size_alloc1, World.size_drew, Nat.reduceAdd] at hO); (try simp only [upd, updI, List.map_cons, List.map_nil, eq_self, if_true, if_false, reduceIte, Nat.add_eq_left, Nat.left_eq_add, Nat.reduceEqDiff, List.set_cons_zero, List.set_cons_succ, hG] at hO); clear hG; have hF := hO; (try simp only [Own, Item.Holds, apartI, CellsAt, Nat.reduceAdd, Nat.zero_add, List.mem_cons, List.not_mem_nil, or_false, forall_eq_or_imp, forall_eq, ne_eq, false_imp_iff, implies_true, and_true] at hF))
      obtain ⟨A5, k5, hv5⟩ := (SlAt.of_row hO.1.1).form
      subst hv5
      go_wp2_with fail
      (go_at_call 15; apply own_at hO; (repeat (first | (with_reducible exact hO) | (with_reducible apply Own.alloc) | (with_reducible apply Own.drew) | ((with_reducible apply Own.set_at); (focus (show _ ≤ _; omega))))); have hG := hF; clear hF; clear hO; intro hO; refine own_callO hO (fun hW => HG.out _ _ _ (SlAt.of_row hW.2.2.1.1) (SlAt.of_row hW.1.1)) ?_; clear hO; intro w1 hO; (try simp only [World.size_alloc1, World.size_drew, Nat.reduceAdd] at hO); (try simp only [upd, updI, List.map_cons, List.map_nil, eq_self, if_true, if_false, reduceIte, Nat.add_eq_left, Nat.left_eq_add, Nat.reduceEqDiff, List.set_cons_zero, List.set_cons_succ, hG] at hO); clear hG; have hF := hO; (try simp only [Own, Item.Holds, apartI, CellsAt, Nat.reduceAdd, Nat.zero_add, List.mem_cons, List.not_mem_nil, or_false, forall_eq_or_imp, forall_eq, ne_eq, false_imp_iff, implies_true, and_true] at hF))
      go_wp2_with fail
      clear HI HS HJ HG
      (go_at_call 17; apply own_at hO; (repeat (first | (with_reducible exact hO) | (with_reducible apply Own.alloc) | (with_reducible apply Own.drew) | ((with_reducible apply Own.set_at); (focus (show _ ≤ _; omega))))); have hG := hF; clear hF; clear hO; intro hO; refine own_call hO (fun hB => HV1.out _ hB) ?_; clear hO; intro w1 hO; (try simp only [World.size_alloc1, World.size_drew, Nat.reduceAdd] at hO); (try simp only [upd, updI, List.map_cons, List.map_nil, eq_self, if_true, if_false, reduceIte, Nat.add_eq_left, Nat.left_eq_add, Nat.reduceEqDiff, List.set_cons_zero, List.set_cons_succ, hG] at hO); clear hG; have hF := hO; (try simp only [Own, Item.Holds, apartI, CellsAt, Nat.reduceAdd, Nat.zero_add, List.mem_cons, List.not_mem_nil, or_false, forall_eq_or_imp, forall_eq, ne_eq, false_imp_iff, implies_true, and_true] at hF))
      go_wp2_with fail
      (go_at_call 17; apply own_at hO; (repeat (first | (with_reducible exact hO) | (with_reducible apply Own.alloc) | (with_reducible apply Own.drew) | ((with_reducible apply Own.set_at); (focus (show _ ≤ _; omega))))); have hG := hF; clear hF; clear hO; intro hO; refine own_call hO (fun hB => HV2.out _ hB) ?_; clear hO; intro w1 hO; (try simp only [World.size_alloc1, World.size_drew, Nat.reduceAdd] at hO); (try simp only [upd, updI, List.map_cons, List.map_nil, eq_self, if_true, if_false, reduceIte, Nat.add_eq_left, Nat.left_eq_add, Nat.reduceEqDiff, List.set_cons_zero, List.set_cons_succ, hG] at hO); clear hG; have hF := hO; (try simp only [Own, Item.Holds, apartI, CellsAt, Nat.reduceAdd, Nat.zero_add, List.mem_cons, List.not_mem_nil, or_false, forall_eq_or_imp, forall_eq, ne_eq, false_imp_iff, implies_true, and_true] at hF))
      have hO2 := Own.sub (.cons _ (.cons _ (.refl _))) hO
      clear hO
      go_wp2_with fail
      go_loopw [6] (fun t wr => ∃ i : Nat, i ≤ k ∧ t = .int .i64 i ∧ Own wd.heap.size (Below wd.heap.size wd) wr [.row 3 1 (.slice A3 k k3) k (intC u)]) (fun t _ => k - (intOf t).toNat)
      case atStart => exact ⟨0, by omega, rfl, hO2⟩
      case round =>
        clear hO2 hF
        obtain ⟨i, hi, rfl, hO⟩ := hrel
        have hF := True.intro
        by_cases he : i = k
        · subst he
          have c1 : (i : Int) ≤ (n : Int) + (m : Int) := by have := HKN.out; omega
          go_wp2_with fail
          go_ret
          exact ⟨ret_bool (by simp), btr HB0.out (Own.base (by first | exact hO | (repeat (first | (with_reducible exact hO) | (with_reducible apply Own.alloc) | (with_reducible apply Own.drew) | ((with_reducible apply Own.set_at); (focus (show _ ≤ _; omega)))))))⟩
        · have hil : i < k := by omega
          have hil2 : (i : Int) < (k : Int) := by omega
          have hi0 : (0 : Int) ≤ (i : Int) := by omega
          obtain ⟨t, hti⟩ : ∃ t, u[i]? = some t := ⟨_, List.getElem?_eq_getElem (by have := HU.out.2; omega)⟩
          have hti2 := hti
          rw [← HU.out.1] at hti2
          have hm := mt_mem (List.mem_of_getElem? hti2)
          have h1 := sum_all16 HVV.out.1
          have h2 := sum_all16 HVV.out.2
          have hMO : (moZ a b : Int) = max (sumT a) (sumT b) := by unfold moZ; omega
          have ht0 := hm.2.2.1
          have htM := hm.2.2.2.1
          obtain ⟨sa, hsa⟩ : ∃ s, sumT a = s := ⟨_, rfl⟩
          obtain ⟨sb, hsb⟩ : ∃ s, sumT b = s := ⟨_, rfl⟩
          have HSA := hid (HVT.out sa (by unfold vtZ; rw [if_pos HVV.out.1, hsa]))
          have HSB := hid (HWT.out sb (by unfold vtZ; rw [if_pos HVV.out.2, hsb]))
          rw [hsa] at h1 hMO
          rw [hsb] at h2 hMO
          obtain ⟨M, hM⟩ : ∃ M, (if sa < sb then sb else sa) = M := ⟨_, rfl⟩
          have htM2 : ¬ M ≤ t := by rw [← hM]; split <;> omega
          have htM3 : decide (M ≤ t) = false := decide_eq_false htM2
          have htb : t ≤ 46080 := by omega
          obtain ⟨q3, kk3, hv3, hq3, hq4⟩ := hO.row_open (by omega)
          cases hv3
          have HTI := hid hti
          have HFI := hid (mt_first hti2)
          clear hm hMO htM hsa hsb h1 h2 hq4
          by_cases hz : i = 0
          · subst hz
            have hx0 : t = 0 := HFI.out.1 rfl
            subst hx0
            have e0 := hO.row_cell (intC_get HTI.out)
            rw [show ((0 : Nat) : Int) = 0 from rfl]
            clear e0
            go_wp2_with fail
            apply own_code hO
            (repeat (first | (with_reducible exact hO) | (with_reducible apply Own.alloc) | (with_reducible apply Own.drew) | ((with_reducible apply Own.set_at); (focus (show _ ≤ _; omega)))))
            have hG := hF; clear hF; clear hO; intro hO
            (try simp only [World.size_alloc1, World.size_drew, Nat.reduceAdd] at hO); (try simp only [upd, updI, List.map_cons, List.map_nil, eq_self, if_true, if_false, reduceIte, Nat.add_eq_left, Nat.left_eq_add, Nat.reduceEqDiff, List.set_cons_zero, List.set_cons_succ, hG] at hO); clear hG
            refine region_own (X := fun _ => True) [] (by kernel_rfl) (hO) (trivial) (by first | exact XStab.true | exact XStab.rd | exact XStab.rdIf) ?_
            clear hO
            refine Sim.sP (i := 0) (d := some 52) (h := ?_)
            refine Sim.sP (i := 1) (d := some 53) (h := ?_)
            refine Sim.sP (i := 2) (d := some 54) (h := ?_)
            refine Sim.sP (i := 3) (d := some 55) (h := ?_)
            refine Sim.sP (i := 4) (d := some 56) (h := ?_)
            refine Sim.sO (i := 5) (d := some 57) (v := ?_) (hy := ?_) (h := ?_)
            rotate_left
            · first | refine Or.inl ⟨by rfl, fun w hO => ?_⟩ | (refine Or.inr ⟨by rfl, ?_⟩; with_reducible rfl)
              first | done | (have hF := hO; (try simp only [Own, Item.Holds, apartI, CellsAt, Nat.reduceAdd, Nat.zero_add, List.mem_cons, List.not_mem_nil, or_false, forall_eq_or_imp, forall_eq, ne_eq, false_imp_iff, implies_true, and_true] at hF); ((have e0 := hO.row_cell (intC_get HTI.out))); refine Out.same ?_; go_simp; all_goals with_reducible rfl)
            refine Sim.sP (i := 6) (d := some 58) (h := ?_)
            refine Sim.sP (i := 7) (d := some 59) (h := ?_)
            refine Sim.sP (i := 8) (d := some 60) (h := ?_)
            refine Sim.sP (i := 9) (d := some 61) (h := ?_)
            refine Sim.sP (i := 10) (d := some 62) (h := ?_)
            refine Sim.sP (i := 11) (d := some 63) (h := ?_)
            refine Sim.sP (i := 12) (d := some 64) (h := ?_)
            refine Sim.sP (i := 13) (d := some 65) (h := ?_)
            refine Sim.sP (i := 14) (d := some 66) (h := ?_)
            refine Sim.sP (i := 15) (d := some 67) (h := ?_)
            refine Sim.sP (i := 16) (d := some 68) (h := ?_)
            refine Sim.sP (i := 17) (d := some 69) (h := ?_)
            refine Sim.sP (i := 18) (d := some 70) (h := ?_)
            refine Sim.sP (i := 19) (d := some 71) (h := ?_)
            refine Sim.sP (i := 20) (d := some 72) (h := ?_)
            refine Sim.sP (i := 21) (d := some 73) (h := ?_)
            refine Sim.sP (i := 22) (d := some 74) (h := ?_)
            refine Sim.sP (i := 23) (d := some 75) (h := ?_)
            refine Sim.sP (i := 24) (d := some 76) (h := ?_)
            refine Sim.sP (i := 25) (d := some 77) (h := ?_)
            refine Sim.sP (i := 26) (d := some 78) (h := ?_)
            refine Sim.sP (i := 27) (d := some 79) (h := ?_)
            refine Sim.sO (i := 28) (d := some 80) (v := ?_) (hy := ?_) (h := ?_)
            rotate_left
            · first | refine Or.inl ⟨by rfl, fun w hO => ?_⟩ | (refine Or.inr ⟨by rfl, ?_⟩; with_reducible rfl)
              first | done | (have hF := hO; (try simp only [Own, Item.Holds, apartI, CellsAt, Nat.reduceAdd, Nat.zero_add, List.mem_cons, List.not_mem_nil, or_false, forall_eq_or_imp, forall_eq, ne_eq, false_imp_iff, implies_true, and_true] at hF); ((have e0 := hO.row_cell (intC_get HTI.out))); refine Out.same ?_; go_simp; all_goals with_reducible rfl)
            refine Sim.sP (i := 29) (d := some 81) (h := ?_)
            refine Sim.sO (i := 30) (d := some 82) (v := ?_) (hy := ?_) (h := ?_)
            rotate_left
            · first | refine Or.inl ⟨by rfl, fun w hO => ?_⟩ | (refine Or.inr ⟨by rfl, ?_⟩; with_reducible rfl)
              first | done | (refine Out.call (f := 19) (args := ?_) ?_ ?_; rotate_left; (focus (go_simp; all_goals with_reducible rfl)); exact HSA.out _ hO.base)
            refine Sim.sP (i := 31) (d := some 83) (h := ?_)
            refine Sim.sO (i := 32) (d := some 84) (v := ?_) (hy := ?_) (h := ?_)
            rotate_left
            · first | refine Or.inl ⟨by rfl, fun w hO => ?_⟩ | (refine Or.inr ⟨by rfl, ?_⟩; with_reducible rfl)
              first | done | (refine Out.call (f := 19) (args := ?_) ?_ ?_; rotate_left; (focus (go_simp; all_goals with_reducible rfl)); exact HSB.out _ hO.base)
            refine Sim.sO (i := 33) (d := some 85) (v := ?_) (hy := ?_) (h := ?_)
            rotate_left
            · first | refine Or.inl ⟨by rfl, fun w hO => ?_⟩ | (refine Or.inr ⟨by rfl, ?_⟩; with_reducible rfl)
              first | done | (have hF := hO; (try simp only [Own, Item.Holds, apartI, CellsAt, Nat.reduceAdd, Nat.zero_add, List.mem_cons, List.not_mem_nil, or_false, forall_eq_or_imp, forall_eq, ne_eq, false_imp_iff, implies_true, and_true] at hF); ((have e0 := hO.row_cell (intC_get HTI.out))); refine Out.same ?_; go_simp; all_goals with_reducible rfl)
            refine Sim.sP (i := 34) (d := some 86) (h := ?_)
            refine Sim.sP (i := 35) (d := some 87) (h := ?_)
            refine Sim.done (by kernel_rfl) (fun w1 hO hX => ?_) _
            (try simp only [World.size_alloc1, World.size_drew, Nat.reduceAdd] at hO); (try simp only [upd, updI, List.map_cons, List.map_nil, eq_self, if_true, if_false, reduceIte, Nat.add_eq_left, Nat.left_eq_add, Nat.reduceEqDiff, List.set_cons_zero, List.set_cons_succ] at hO)
            have hF := hO; (try simp only [Own, Item.Holds, apartI, CellsAt, Nat.reduceAdd, Nat.zero_add, List.mem_cons, List.not_mem_nil, or_false, forall_eq_or_imp, forall_eq, ne_eq, false_imp_iff, implies_true, and_true] at hF)
            go_wp2_with fail
            apply own_code hO
            (repeat (first | (with_reducible exact hO) | (with_reducible apply Own.alloc) | (with_reducible apply Own.drew) | ((with_reducible apply Own.set_at); (focus (show _ ≤ _; omega)))))
            have hG := hF; clear hF; clear hO; intro hO
            (try simp only [World.size_alloc1, World.size_drew, Nat.reduceAdd] at hO); (try simp only [upd, updI, List.map_cons, List.map_nil, eq_self, if_true, if_false, reduceIte, Nat.add_eq_left, Nat.left_eq_add, Nat.reduceEqDiff, List.set_cons_zero, List.set_cons_succ, hG] at hO); clear hG
            refine region_own (X := fun _ => True) [] (by kernel_rfl) (hO) (trivial) (by first | exact XStab.true | exact XStab.rd | exact XStab.rdIf) ?_
            clear hO
            refine Sim.sP (i := 0) (d := some 88) (h := ?_)
            refine Sim.sP (i := 1) (d := some 89) (h := ?_)
            refine Sim.sP (i := 2) (d := some 90) (h := ?_)
            refine Sim.sP (i := 3) (d := some 91) (h := ?_)
            refine Sim.sP (i := 4) (d := some 92) (h := ?_)
            refine Sim.sP (i := 5) (d := some 93) (h := ?_)
            refine Sim.sP (i := 6) (d := some 94) (h := ?_)
            refine Sim.sP (i := 7) (d := some 95) (h := ?_)
            refine Sim.sP (i := 8) (d := some 96) (h := ?_)
            refine Sim.sP (i := 9) (d := some 97) (h := ?_)
            refine Sim.sP (i := 10) (d := some 98) (h := ?_)
            refine Sim.sP (i := 11) (d := some 99) (h := ?_)
            refine Sim.sP (i := 12) (d := some 100) (h := ?_)
            refine Sim.sP (i := 13) (d := some 101) (h := ?_)
            refine Sim.sP (i := 14) (d := some 102) (h := ?_)
            refine Sim.sP (i := 15) (d := some 103) (h := ?_)
            refine Sim.sP (i := 16) (d := some 104) (h := ?_)
            refine Sim.sP (i := 17) (d := some 105) (h := ?_)
            refine Sim.sP (i := 18) (d := some 106) (h := ?_)
            refine Sim.sP (i := 19) (d := some 107) (h := ?_)
            refine Sim.sP (i := 20) (d := some 108) (h := ?_)
            refine Sim.sP (i := 21) (d := some 109) (h := ?_)
            refine Sim.sP (i := 22) (d := some 110) (h := ?_)
            refine Sim.sP (i := 23) (d := some 111) (h := ?_)
            refine Sim.sP (i := 24) (d := some 112) (h := ?_)
            refine Sim.sP (i := 25) (d := some 113) (h := ?_)
            refine Sim.sP (i := 26) (d := some 114) (h := ?_)
            refine Sim.sP (i := 27) (d := some 115) (h := ?_)
            refine Sim.sP (i := 28) (d := some 116) (h := ?_)
            refine Sim.sP (i := 29) (d := some 117) (h := ?_)
            refine Sim.sP (i := 30) (d := some 118) (h := ?_)
            refine Sim.sP (i := 31) (d := some 119) (h := ?_)
            refine Sim.sP (i := 32) (d := some 120) (h := ?_)
            refine Sim.sP (i := 33) (d := some 121) (h := ?_)
            refine Sim.done (by kernel_rfl) (fun w1 hO hX => ?_) _
            (try simp only [World.size_alloc1, World.size_drew, Nat.reduceAdd] at hO); (try simp only [upd, updI, List.map_cons, List.map_nil, eq_self, if_true, if_false, reduceIte, Nat.add_eq_left, Nat.left_eq_add, Nat.reduceEqDiff, List.set_cons_zero, List.set_cons_succ] at hO)
            have hF := hO; (try simp only [Own, Item.Holds, apartI, CellsAt, Nat.reduceAdd, Nat.zero_add, List.mem_cons, List.not_mem_nil, or_false, forall_eq_or_imp, forall_eq, ne_eq, false_imp_iff, implies_true, and_true] at hF)
            go_wp2_with fail
            go_roundw
            case rel => exact ⟨1, by omega, by go_num, hO⟩
            case measure => simp [intOf]; omega
          · obtain ⟨p, rfl⟩ : ∃ p, i = p + 1 := ⟨i - 1, by omega⟩
            obtain ⟨s, hsi⟩ : ∃ s, u[p]? = some s := ⟨_, List.getElem?_eq_getElem (by have := HU.out.2; omega)⟩
            have hst := mt_at16 (a := a) (b := b) (by rw [HU.out.1]; exact hsi) hti2
            have htn := mt_turn (by omega) hti2
            have HSI := hid hsi
            have g1 : ¬ t ≤ s := by omega
            have g2 : decide (t ≤ s) = false := decide_eq_false g1
            have g3 : ((p : Int) + 1 == 0) = false := by simp; omega
            have g4 : ¬ (p : Int) + 1 = 0 := by omega
            have g5 : (0 : Int) < (p : Int) + 1 := by omega
            have g6 : decide ((0 : Int) < (p : Int) + 1) = true := decide_eq_true g5
            have hp9 : p ≤ 200 := by have := HKN.out; omega
            have g7 : IntKind.i64.wrap ((p : Int) + 1 - 1) = (p : Int) := by rw [Int.add_sub_cancel]; exact IntWalk.i64_in _ (by omega)
            have g8 : (0 : Int) ≤ (p : Int) := by omega
            have g9 : (p : Int) < (k : Int) := by omega
            have ga : IntKind.i64.wrap (p : Int) = (p : Int) := IntWalk.i64_in _ (by omega)
            have ht1 : 0 < t := HFI.out.2 (by omega)
            have wt : IntKind.i64.wrap (t - 1) = t - 1 := IntWalk.i64_in _ (by omega)
            obtain ⟨z1, hz1⟩ : ∃ z, naZ a t = z := ⟨_, rfl⟩
            obtain ⟨z2, hz2⟩ : ∃ z, naZ a (t - 1) = z := ⟨_, rfl⟩
            obtain ⟨z3, hz3⟩ : ∃ z, naZ b t = z := ⟨_, rfl⟩
            obtain ⟨z4, hz4⟩ : ∃ z, naZ b (t - 1) = z := ⟨_, rfl⟩
            have HN1 := hid (HNA.out t z1 (by omega) (by omega) hz1)
            have HN2 := hid (HNA.out (t - 1) z2 (by omega) (by omega) hz2)
            have HN3 := hid (HNB.out t z3 (by omega) (by omega) hz3)
            have HN4 := hid (HNB.out (t - 1) z4 (by omega) (by omega) hz4)
            rw [hz1, hz2, hz3, hz4] at htn
            clear hst hti hti2 hsi he hz ht0 hz1 hz2 hz3 hz4
            rw [show ((p + 1 : Nat) : Int) = (p : Int) + 1 from rfl] at *
            by_cases hz12 : z1 = z2
            · have hz34 : (z3 == z4) = false := by
                have : ¬ z3 = z4 := by rcases htn with h | h; exact absurd hz12 h; exact h
                simpa using this
              have hz35 : ¬ z3 = z4 := by simpa using hz34
              have hz12' : (z1 == z2) = true := by simpa using hz12
              have HZ12 := hid hz12
              clear htn hz12
              go_wp2_with fail
              apply own_code hO
              (repeat (first | (with_reducible exact hO) | (with_reducible apply Own.alloc) | (with_reducible apply Own.drew) | ((with_reducible apply Own.set_at); (focus (show _ ≤ _; omega)))))
              have hG := hF; clear hF; clear hO; intro hO
              (try simp only [World.size_alloc1, World.size_drew, Nat.reduceAdd] at hO); (try simp only [upd, updI, List.map_cons, List.map_nil, eq_self, if_true, if_false, reduceIte, Nat.add_eq_left, Nat.left_eq_add, Nat.reduceEqDiff, List.set_cons_zero, List.set_cons_succ, hG] at hO); clear hG
              refine region_own (X := fun _ => True) [] (by kernel_rfl) (hO) (trivial) (by first | exact XStab.true | exact XStab.rd | exact XStab.rdIf) ?_
              clear hO
              refine Sim.sP (i := 0) (d := some 52) (h := ?_)
              refine Sim.sP (i := 1) (d := some 53) (h := ?_)
              refine Sim.sP (i := 2) (d := some 54) (h := ?_)
              refine Sim.sP (i := 3) (d := some 55) (h := ?_)
              refine Sim.sP (i := 4) (d := some 56) (h := ?_)
              refine Sim.sP (i := 5) (d := some 57) (h := ?_)
              refine Sim.sP (i := 6) (d := some 58) (h := ?_)
              refine Sim.sP (i := 7) (d := some 59) (h := ?_)
              refine Sim.sP (i := 8) (d := some 60) (h := ?_)
              refine Sim.sP (i := 9) (d := some 61) (h := ?_)
              refine Sim.sP (i := 10) (d := some 62) (h := ?_)
              refine Sim.sP (i := 11) (d := some 63) (h := ?_)
              refine Sim.sP (i := 12) (d := some 64) (h := ?_)
              refine Sim.sP (i := 13) (d := some 65) (h := ?_)
              refine Sim.sP (i := 14) (d := some 66) (h := ?_)
              refine Sim.sP (i := 15) (d := some 67) (h := ?_)
              refine Sim.sO (i := 16) (d := some 68) (v := ?_) (hy := ?_) (h := ?_)
              rotate_left
              · first | refine Or.inl ⟨by rfl, fun w hO => ?_⟩ | (refine Or.inr ⟨by rfl, ?_⟩; with_reducible rfl)
                first | done | (have hF := hO; (try simp only [Own, Item.Holds, apartI, CellsAt, Nat.reduceAdd, Nat.zero_add, List.mem_cons, List.not_mem_nil, or_false, forall_eq_or_imp, forall_eq, ne_eq, false_imp_iff, implies_true, and_true] at hF); ((have e0 := hO.row_cell (intC_get HTI.out); have e1 := hO.row_cell (intC_get HSI.out))); refine Out.same ?_; go_simp; all_goals with_reducible rfl)
              refine Sim.sP (i := 17) (d := some 69) (h := ?_)
              refine Sim.sP (i := 18) (d := some 70) (h := ?_)
              refine Sim.sP (i := 19) (d := some 71) (h := ?_)
              refine Sim.sO (i := 20) (d := some 72) (v := ?_) (hy := ?_) (h := ?_)
              rotate_left
              · first | refine Or.inl ⟨by rfl, fun w hO => ?_⟩ | (refine Or.inr ⟨by rfl, ?_⟩; with_reducible rfl)
                first | done | (have hF := hO; (try simp only [Own, Item.Holds, apartI, CellsAt, Nat.reduceAdd, Nat.zero_add, List.mem_cons, List.not_mem_nil, or_false, forall_eq_or_imp, forall_eq, ne_eq, false_imp_iff, implies_true, and_true] at hF); ((have e0 := hO.row_cell (intC_get HTI.out); have e1 := hO.row_cell (intC_get HSI.out))); refine Out.same ?_; go_simp; all_goals with_reducible rfl)
              refine Sim.sP (i := 21) (d := some 73) (h := ?_)
              refine Sim.sP (i := 22) (d := some 74) (h := ?_)
              refine Sim.sP (i := 23) (d := some 75) (h := ?_)
              refine Sim.sP (i := 24) (d := some 76) (h := ?_)
              refine Sim.sP (i := 25) (d := some 77) (h := ?_)
              refine Sim.sP (i := 26) (d := some 78) (h := ?_)
              refine Sim.sP (i := 27) (d := some 79) (h := ?_)
              refine Sim.sO (i := 28) (d := some 80) (v := ?_) (hy := ?_) (h := ?_)
              rotate_left
              · first | refine Or.inl ⟨by rfl, fun w hO => ?_⟩ | (refine Or.inr ⟨by rfl, ?_⟩; with_reducible rfl)
                first | done | (have hF := hO; (try simp only [Own, Item.Holds, apartI, CellsAt, Nat.reduceAdd, Nat.zero_add, List.mem_cons, List.not_mem_nil, or_false, forall_eq_or_imp, forall_eq, ne_eq, false_imp_iff, implies_true, and_true] at hF); ((have e0 := hO.row_cell (intC_get HTI.out); have e1 := hO.row_cell (intC_get HSI.out))); refine Out.same ?_; go_simp; all_goals with_reducible rfl)
              refine Sim.sP (i := 29) (d := some 81) (h := ?_)
              refine Sim.sO (i := 30) (d := some 82) (v := ?_) (hy := ?_) (h := ?_)
              rotate_left
              · first | refine Or.inl ⟨by rfl, fun w hO => ?_⟩ | (refine Or.inr ⟨by rfl, ?_⟩; with_reducible rfl)
                first | done | (refine Out.call (f := 19) (args := ?_) ?_ ?_; rotate_left; (focus (go_simp; all_goals with_reducible rfl)); exact HSA.out _ hO.base)
              refine Sim.sP (i := 31) (d := some 83) (h := ?_)
              refine Sim.sO (i := 32) (d := some 84) (v := ?_) (hy := ?_) (h := ?_)
              rotate_left
              · first | refine Or.inl ⟨by rfl, fun w hO => ?_⟩ | (refine Or.inr ⟨by rfl, ?_⟩; with_reducible rfl)
                first | done | (refine Out.call (f := 19) (args := ?_) ?_ ?_; rotate_left; (focus (go_simp; all_goals with_reducible rfl)); exact HSB.out _ hO.base)
              refine Sim.sO (i := 33) (d := some 85) (v := ?_) (hy := ?_) (h := ?_)
              rotate_left
              · first | refine Or.inl ⟨by rfl, fun w hO => ?_⟩ | (refine Or.inr ⟨by rfl, ?_⟩; with_reducible rfl)
                first | done | (have hF := hO; (try simp only [Own, Item.Holds, apartI, CellsAt, Nat.reduceAdd, Nat.zero_add, List.mem_cons, List.not_mem_nil, or_false, forall_eq_or_imp, forall_eq, ne_eq, false_imp_iff, implies_true, and_true] at hF); ((have e0 := hO.row_cell (intC_get HTI.out); have e1 := hO.row_cell (intC_get HSI.out))); refine Out.same ?_; go_simp; all_goals with_reducible rfl)
              refine Sim.sP (i := 34) (d := some 86) (h := ?_)
              refine Sim.sP (i := 35) (d := some 87) (h := ?_)
              refine Sim.done (by kernel_rfl) (fun w1 hO hX => ?_) _
              (try simp only [World.size_alloc1, World.size_drew, Nat.reduceAdd] at hO); (try simp only [upd, updI, List.map_cons, List.map_nil, eq_self, if_true, if_false, reduceIte, Nat.add_eq_left, Nat.left_eq_add, Nat.reduceEqDiff, List.set_cons_zero, List.set_cons_succ] at hO)
              have hF := hO; (try simp only [Own, Item.Holds, apartI, CellsAt, Nat.reduceAdd, Nat.zero_add, List.mem_cons, List.not_mem_nil, or_false, forall_eq_or_imp, forall_eq, ne_eq, false_imp_iff, implies_true, and_true] at hF)
              go_wp2_with fail
              apply own_code hO
              (repeat (first | (with_reducible exact hO) | (with_reducible apply Own.alloc) | (with_reducible apply Own.drew) | ((with_reducible apply Own.set_at); (focus (show _ ≤ _; omega)))))
              have hG := hF; clear hF; clear hO; intro hO
              (try simp only [World.size_alloc1, World.size_drew, Nat.reduceAdd] at hO); (try simp only [upd, updI, List.map_cons, List.map_nil, eq_self, if_true, if_false, reduceIte, Nat.add_eq_left, Nat.left_eq_add, Nat.reduceEqDiff, List.set_cons_zero, List.set_cons_succ, hG] at hO); clear hG
              refine region_own (X := fun _ => True) [] (by kernel_rfl) (hO) (trivial) (by first | exact XStab.true | exact XStab.rd | exact XStab.rdIf) ?_
              clear hO
              refine Sim.sP (i := 0) (d := some 88) (h := ?_)
              refine Sim.sP (i := 1) (d := some 89) (h := ?_)
              refine Sim.sP (i := 2) (d := some 90) (h := ?_)
              refine Sim.sP (i := 3) (d := some 91) (h := ?_)
              refine Sim.sP (i := 4) (d := some 92) (h := ?_)
              refine Sim.sP (i := 5) (d := some 93) (h := ?_)
              refine Sim.sP (i := 6) (d := some 94) (h := ?_)
              refine Sim.sO (i := 7) (d := some 95) (v := ?_) (hy := ?_) (h := ?_)
              rotate_left
              · first | refine Or.inl ⟨by rfl, fun w hO => ?_⟩ | (refine Or.inr ⟨by rfl, ?_⟩; with_reducible rfl)
                first | done | (have hF := hO; (try simp only [Own, Item.Holds, apartI, CellsAt, Nat.reduceAdd, Nat.zero_add, List.mem_cons, List.not_mem_nil, or_false, forall_eq_or_imp, forall_eq, ne_eq, false_imp_iff, implies_true, and_true] at hF); ((have e0 := hO.row_cell (intC_get HTI.out))); refine Out.same ?_; go_simp; all_goals with_reducible rfl)
              refine Sim.sO (i := 8) (d := some 96) (v := ?_) (hy := ?_) (h := ?_)
              rotate_left
              · first | refine Or.inl ⟨by rfl, fun w hO => ?_⟩ | (refine Or.inr ⟨by rfl, ?_⟩; with_reducible rfl)
                first | done | (refine Out.call (f := 20) (args := ?_) ?_ ?_; rotate_left; (focus (go_simp; all_goals with_reducible rfl)); exact HN1.out _ hO.base)
              refine Sim.sP (i := 9) (d := some 97) (h := ?_)
              refine Sim.sP (i := 10) (d := some 98) (h := ?_)
              refine Sim.sP (i := 11) (d := some 99) (h := ?_)
              refine Sim.sP (i := 12) (d := some 100) (h := ?_)
              refine Sim.sO (i := 13) (d := some 101) (v := ?_) (hy := ?_) (h := ?_)
              rotate_left
              · first | refine Or.inl ⟨by rfl, fun w hO => ?_⟩ | (refine Or.inr ⟨by rfl, ?_⟩; with_reducible rfl)
                first | done | (have hF := hO; (try simp only [Own, Item.Holds, apartI, CellsAt, Nat.reduceAdd, Nat.zero_add, List.mem_cons, List.not_mem_nil, or_false, forall_eq_or_imp, forall_eq, ne_eq, false_imp_iff, implies_true, and_true] at hF); ((have e0 := hO.row_cell (intC_get HTI.out))); refine Out.same ?_; go_simp; all_goals with_reducible rfl)
              refine Sim.sP (i := 14) (d := some 102) (h := ?_)
              refine Sim.sO (i := 15) (d := some 103) (v := ?_) (hy := ?_) (h := ?_)
              rotate_left
              · first | refine Or.inl ⟨by rfl, fun w hO => ?_⟩ | (refine Or.inr ⟨by rfl, ?_⟩; with_reducible rfl)
                first | done | (refine Out.call (f := 20) (args := ?_) ?_ ?_; rotate_left; (focus (go_simp; all_goals with_reducible rfl)); exact HN2.out _ hO.base)
              refine Sim.sP (i := 16) (d := some 104) (h := ?_)
              refine Sim.sP (i := 17) (d := some 105) (h := ?_)
              refine Sim.sP (i := 18) (d := some 106) (h := ?_)
              refine Sim.sP (i := 19) (d := some 107) (h := ?_)
              refine Sim.sP (i := 20) (d := some 108) (h := ?_)
              refine Sim.sP (i := 21) (d := some 109) (h := ?_)
              refine Sim.sP (i := 22) (d := some 110) (h := ?_)
              refine Sim.sO (i := 23) (d := some 111) (v := ?_) (hy := ?_) (h := ?_)
              rotate_left
              · first | refine Or.inl ⟨by rfl, fun w hO => ?_⟩ | (refine Or.inr ⟨by rfl, ?_⟩; with_reducible rfl)
                first | done | (have hF := hO; (try simp only [Own, Item.Holds, apartI, CellsAt, Nat.reduceAdd, Nat.zero_add, List.mem_cons, List.not_mem_nil, or_false, forall_eq_or_imp, forall_eq, ne_eq, false_imp_iff, implies_true, and_true] at hF); ((have e0 := hO.row_cell (intC_get HTI.out))); refine Out.same ?_; go_simp; all_goals with_reducible rfl)
              refine Sim.sO (i := 24) (d := some 112) (v := ?_) (hy := ?_) (h := ?_)
              rotate_left
              · first | refine Or.inl ⟨by rfl, fun w hO => ?_⟩ | (refine Or.inr ⟨by rfl, ?_⟩; with_reducible rfl)
                first | done | (refine Out.call (f := 20) (args := ?_) ?_ ?_; rotate_left; (focus (go_simp; all_goals with_reducible rfl)); exact HN3.out _ hO.base)
              refine Sim.sP (i := 25) (d := some 113) (h := ?_)
              refine Sim.sP (i := 26) (d := some 114) (h := ?_)
              refine Sim.sP (i := 27) (d := some 115) (h := ?_)
              refine Sim.sP (i := 28) (d := some 116) (h := ?_)
              refine Sim.sO (i := 29) (d := some 117) (v := ?_) (hy := ?_) (h := ?_)
              rotate_left
              · first | refine Or.inl ⟨by rfl, fun w hO => ?_⟩ | (refine Or.inr ⟨by rfl, ?_⟩; with_reducible rfl)
                first | done | (have hF := hO; (try simp only [Own, Item.Holds, apartI, CellsAt, Nat.reduceAdd, Nat.zero_add, List.mem_cons, List.not_mem_nil, or_false, forall_eq_or_imp, forall_eq, ne_eq, false_imp_iff, implies_true, and_true] at hF); ((have e0 := hO.row_cell (intC_get HTI.out))); refine Out.same ?_; go_simp; all_goals with_reducible rfl)
              refine Sim.sP (i := 30) (d := some 118) (h := ?_)
              refine Sim.sO (i := 31) (d := some 119) (v := ?_) (hy := ?_) (h := ?_)
              rotate_left
              · first | refine Or.inl ⟨by rfl, fun w hO => ?_⟩ | (refine Or.inr ⟨by rfl, ?_⟩; with_reducible rfl)
                first | done | (refine Out.call (f := 20) (args := ?_) ?_ ?_; rotate_left; (focus (go_simp; all_goals with_reducible rfl)); exact HN4.out _ hO.base)
              refine Sim.sP (i := 32) (d := some 120) (h := ?_)
              refine Sim.sP (i := 33) (d := some 121) (h := ?_)
              refine Sim.done (by kernel_rfl) (fun w1 hO hX => ?_) _
              (try simp only [World.size_alloc1, World.size_drew, Nat.reduceAdd] at hO); (try simp only [upd, updI, List.map_cons, List.map_nil, eq_self, if_true, if_false, reduceIte, Nat.add_eq_left, Nat.left_eq_add, Nat.reduceEqDiff, List.set_cons_zero, List.set_cons_succ] at hO)
              have hF := hO; (try simp only [Own, Item.Holds, apartI, CellsAt, Nat.reduceAdd, Nat.zero_add, List.mem_cons, List.not_mem_nil, or_false, forall_eq_or_imp, forall_eq, ne_eq, false_imp_iff, implies_true, and_true] at hF)
              go_wp2_with fail
              go_roundw
              case rel => exact ⟨p + 2, by omega, by go_num, hO⟩
              case measure => simp [intOf]; omega
            · have hz12' : (z1 == z2) = false := by simpa using hz12
              clear htn
              go_wp2_with fail
              apply own_code hO
              (repeat (first | (with_reducible exact hO) | (with_reducible apply Own.alloc) | (with_reducible apply Own.drew) | ((with_reducible apply Own.set_at); (focus (show _ ≤ _; omega)))))
              have hG := hF; clear hF; clear hO; intro hO
              (try simp only [World.size_alloc1, World.size_drew, Nat.reduceAdd] at hO); (try simp only [upd, updI, List.map_cons, List.map_nil, eq_self, if_true, if_false, reduceIte, Nat.add_eq_left, Nat.left_eq_add, Nat.reduceEqDiff, List.set_cons_zero, List.set_cons_succ, hG] at hO); clear hG
              refine region_own (X := fun _ => True) [] (by kernel_rfl) (hO) (trivial) (by first | exact XStab.true | exact XStab.rd | exact XStab.rdIf) ?_
              clear hO
              refine Sim.sP (i := 0) (d := some 52) (h := ?_)
              refine Sim.sP (i := 1) (d := some 53) (h := ?_)
              refine Sim.sP (i := 2) (d := some 54) (h := ?_)
              refine Sim.sP (i := 3) (d := some 55) (h := ?_)
              refine Sim.sP (i := 4) (d := some 56) (h := ?_)
              refine Sim.sP (i := 5) (d := some 57) (h := ?_)
              refine Sim.sP (i := 6) (d := some 58) (h := ?_)
              refine Sim.sP (i := 7) (d := some 59) (h := ?_)
              refine Sim.sP (i := 8) (d := some 60) (h := ?_)
              refine Sim.sP (i := 9) (d := some 61) (h := ?_)
              refine Sim.sP (i := 10) (d := some 62) (h := ?_)
              refine Sim.sP (i := 11) (d := some 63) (h := ?_)
              refine Sim.sP (i := 12) (d := some 64) (h := ?_)
              refine Sim.sP (i := 13) (d := some 65) (h := ?_)
              refine Sim.sP (i := 14) (d := some 66) (h := ?_)
              refine Sim.sP (i := 15) (d := some 67) (h := ?_)
              refine Sim.sO (i := 16) (d := some 68) (v := ?_) (hy := ?_) (h := ?_)
              rotate_left
              · first | refine Or.inl ⟨by rfl, fun w hO => ?_⟩ | (refine Or.inr ⟨by rfl, ?_⟩; with_reducible rfl)
                first | done | (have hF := hO; (try simp only [Own, Item.Holds, apartI, CellsAt, Nat.reduceAdd, Nat.zero_add, List.mem_cons, List.not_mem_nil, or_false, forall_eq_or_imp, forall_eq, ne_eq, false_imp_iff, implies_true, and_true] at hF); ((have e0 := hO.row_cell (intC_get HTI.out); have e1 := hO.row_cell (intC_get HSI.out))); refine Out.same ?_; go_simp; all_goals with_reducible rfl)
              refine Sim.sP (i := 17) (d := some 69) (h := ?_)
              refine Sim.sP (i := 18) (d := some 70) (h := ?_)
              refine Sim.sP (i := 19) (d := some 71) (h := ?_)
              refine Sim.sO (i := 20) (d := some 72) (v := ?_) (hy := ?_) (h := ?_)
              rotate_left
              · first | refine Or.inl ⟨by rfl, fun w hO => ?_⟩ | (refine Or.inr ⟨by rfl, ?_⟩; with_reducible rfl)
                first | done | (have hF := hO; (try simp only [Own, Item.Holds, apartI, CellsAt, Nat.reduceAdd, Nat.zero_add, List.mem_cons, List.not_mem_nil, or_false, forall_eq_or_imp, forall_eq, ne_eq, false_imp_iff, implies_true, and_true] at hF); ((have e0 := hO.row_cell (intC_get HTI.out); have e1 := hO.row_cell (intC_get HSI.out))); refine Out.same ?_; go_simp; all_goals with_reducible rfl)
              refine Sim.sP (i := 21) (d := some 73) (h := ?_)
              refine Sim.sP (i := 22) (d := some 74) (h := ?_)
              refine Sim.sP (i := 23) (d := some 75) (h := ?_)
              refine Sim.sP (i := 24) (d := some 76) (h := ?_)
              refine Sim.sP (i := 25) (d := some 77) (h := ?_)
              refine Sim.sP (i := 26) (d := some 78) (h := ?_)
              refine Sim.sP (i := 27) (d := some 79) (h := ?_)
              refine Sim.sO (i := 28) (d := some 80) (v := ?_) (hy := ?_) (h := ?_)
              rotate_left
              · first | refine Or.inl ⟨by rfl, fun w hO => ?_⟩ | (refine Or.inr ⟨by rfl, ?_⟩; with_reducible rfl)
                first | done | (have hF := hO; (try simp only [Own, Item.Holds, apartI, CellsAt, Nat.reduceAdd, Nat.zero_add, List.mem_cons, List.not_mem_nil, or_false, forall_eq_or_imp, forall_eq, ne_eq, false_imp_iff, implies_true, and_true] at hF); ((have e0 := hO.row_cell (intC_get HTI.out); have e1 := hO.row_cell (intC_get HSI.out))); refine Out.same ?_; go_simp; all_goals with_reducible rfl)
              refine Sim.sP (i := 29) (d := some 81) (h := ?_)
              refine Sim.sO (i := 30) (d := some 82) (v := ?_) (hy := ?_) (h := ?_)
              rotate_left
              · first | refine Or.inl ⟨by rfl, fun w hO => ?_⟩ | (refine Or.inr ⟨by rfl, ?_⟩; with_reducible rfl)
                first | done | (refine Out.call (f := 19) (args := ?_) ?_ ?_; rotate_left; (focus (go_simp; all_goals with_reducible rfl)); exact HSA.out _ hO.base)
              refine Sim.sP (i := 31) (d := some 83) (h := ?_)
              refine Sim.sO (i := 32) (d := some 84) (v := ?_) (hy := ?_) (h := ?_)
              rotate_left
              · first | refine Or.inl ⟨by rfl, fun w hO => ?_⟩ | (refine Or.inr ⟨by rfl, ?_⟩; with_reducible rfl)
                first | done | (refine Out.call (f := 19) (args := ?_) ?_ ?_; rotate_left; (focus (go_simp; all_goals with_reducible rfl)); exact HSB.out _ hO.base)
              refine Sim.sO (i := 33) (d := some 85) (v := ?_) (hy := ?_) (h := ?_)
              rotate_left
              · first | refine Or.inl ⟨by rfl, fun w hO => ?_⟩ | (refine Or.inr ⟨by rfl, ?_⟩; with_reducible rfl)
                first | done | (have hF := hO; (try simp only [Own, Item.Holds, apartI, CellsAt, Nat.reduceAdd, Nat.zero_add, List.mem_cons, List.not_mem_nil, or_false, forall_eq_or_imp, forall_eq, ne_eq, false_imp_iff, implies_true, and_true] at hF); ((have e0 := hO.row_cell (intC_get HTI.out); have e1 := hO.row_cell (intC_get HSI.out))); refine Out.same ?_; go_simp; all_goals with_reducible rfl)
              refine Sim.sP (i := 34) (d := some 86) (h := ?_)
              refine Sim.sP (i := 35) (d := some 87) (h := ?_)
              refine Sim.done (by kernel_rfl) (fun w1 hO hX => ?_) _
              (try simp only [World.size_alloc1, World.size_drew, Nat.reduceAdd] at hO); (try simp only [upd, updI, List.map_cons, List.map_nil, eq_self, if_true, if_false, reduceIte, Nat.add_eq_left, Nat.left_eq_add, Nat.reduceEqDiff, List.set_cons_zero, List.set_cons_succ] at hO)
              have hF := hO; (try simp only [Own, Item.Holds, apartI, CellsAt, Nat.reduceAdd, Nat.zero_add, List.mem_cons, List.not_mem_nil, or_false, forall_eq_or_imp, forall_eq, ne_eq, false_imp_iff, implies_true, and_true] at hF)
              go_wp2_with fail
              apply own_code hO
              (repeat (first | (with_reducible exact hO) | (with_reducible apply Own.alloc) | (with_reducible apply Own.drew) | ((with_reducible apply Own.set_at); (focus (show _ ≤ _; omega)))))
              have hG := hF; clear hF; clear hO; intro hO
              (try simp only [World.size_alloc1, World.size_drew, Nat.reduceAdd] at hO); (try simp only [upd, updI, List.map_cons, List.map_nil, eq_self, if_true, if_false, reduceIte, Nat.add_eq_left, Nat.left_eq_add, Nat.reduceEqDiff, List.set_cons_zero, List.set_cons_succ, hG] at hO); clear hG
              refine region_own (X := fun _ => True) [] (by kernel_rfl) (hO) (trivial) (by first | exact XStab.true | exact XStab.rd | exact XStab.rdIf) ?_
              clear hO
              refine Sim.sP (i := 0) (d := some 88) (h := ?_)
              refine Sim.sP (i := 1) (d := some 89) (h := ?_)
              refine Sim.sP (i := 2) (d := some 90) (h := ?_)
              refine Sim.sP (i := 3) (d := some 91) (h := ?_)
              refine Sim.sP (i := 4) (d := some 92) (h := ?_)
              refine Sim.sP (i := 5) (d := some 93) (h := ?_)
              refine Sim.sP (i := 6) (d := some 94) (h := ?_)
              refine Sim.sO (i := 7) (d := some 95) (v := ?_) (hy := ?_) (h := ?_)
              rotate_left
              · first | refine Or.inl ⟨by rfl, fun w hO => ?_⟩ | (refine Or.inr ⟨by rfl, ?_⟩; with_reducible rfl)
                first | done | (have hF := hO; (try simp only [Own, Item.Holds, apartI, CellsAt, Nat.reduceAdd, Nat.zero_add, List.mem_cons, List.not_mem_nil, or_false, forall_eq_or_imp, forall_eq, ne_eq, false_imp_iff, implies_true, and_true] at hF); ((have e0 := hO.row_cell (intC_get HTI.out))); refine Out.same ?_; go_simp; all_goals with_reducible rfl)
              refine Sim.sO (i := 8) (d := some 96) (v := ?_) (hy := ?_) (h := ?_)
              rotate_left
              · first | refine Or.inl ⟨by rfl, fun w hO => ?_⟩ | (refine Or.inr ⟨by rfl, ?_⟩; with_reducible rfl)
                first | done | (refine Out.call (f := 20) (args := ?_) ?_ ?_; rotate_left; (focus (go_simp; all_goals with_reducible rfl)); exact HN1.out _ hO.base)
              refine Sim.sP (i := 9) (d := some 97) (h := ?_)
              refine Sim.sP (i := 10) (d := some 98) (h := ?_)
              refine Sim.sP (i := 11) (d := some 99) (h := ?_)
              refine Sim.sP (i := 12) (d := some 100) (h := ?_)
              refine Sim.sO (i := 13) (d := some 101) (v := ?_) (hy := ?_) (h := ?_)
              rotate_left
              · first | refine Or.inl ⟨by rfl, fun w hO => ?_⟩ | (refine Or.inr ⟨by rfl, ?_⟩; with_reducible rfl)
                first | done | (have hF := hO; (try simp only [Own, Item.Holds, apartI, CellsAt, Nat.reduceAdd, Nat.zero_add, List.mem_cons, List.not_mem_nil, or_false, forall_eq_or_imp, forall_eq, ne_eq, false_imp_iff, implies_true, and_true] at hF); ((have e0 := hO.row_cell (intC_get HTI.out))); refine Out.same ?_; go_simp; all_goals with_reducible rfl)
              refine Sim.sP (i := 14) (d := some 102) (h := ?_)
              refine Sim.sO (i := 15) (d := some 103) (v := ?_) (hy := ?_) (h := ?_)
              rotate_left
              · first | refine Or.inl ⟨by rfl, fun w hO => ?_⟩ | (refine Or.inr ⟨by rfl, ?_⟩; with_reducible rfl)
                first | done | (refine Out.call (f := 20) (args := ?_) ?_ ?_; rotate_left; (focus (go_simp; all_goals with_reducible rfl)); exact HN2.out _ hO.base)
              refine Sim.sP (i := 16) (d := some 104) (h := ?_)
              refine Sim.sP (i := 17) (d := some 105) (h := ?_)
              refine Sim.sP (i := 18) (d := some 106) (h := ?_)
              refine Sim.sP (i := 19) (d := some 107) (h := ?_)
              refine Sim.sP (i := 20) (d := some 108) (h := ?_)
              refine Sim.sP (i := 21) (d := some 109) (h := ?_)
              refine Sim.sP (i := 22) (d := some 110) (h := ?_)
              refine Sim.sP (i := 23) (d := some 111) (h := ?_)
              refine Sim.sP (i := 24) (d := some 112) (h := ?_)
              refine Sim.sP (i := 25) (d := some 113) (h := ?_)
              refine Sim.sP (i := 26) (d := some 114) (h := ?_)
              refine Sim.sP (i := 27) (d := some 115) (h := ?_)
              refine Sim.sP (i := 28) (d := some 116) (h := ?_)
              refine Sim.sP (i := 29) (d := some 117) (h := ?_)
              refine Sim.sP (i := 30) (d := some 118) (h := ?_)
              refine Sim.sP (i := 31) (d := some 119) (h := ?_)
              refine Sim.sP (i := 32) (d := some 120) (h := ?_)
              refine Sim.sP (i := 33) (d := some 121) (h := ?_)
              refine Sim.done (by kernel_rfl) (fun w1 hO hX => ?_) _
              (try simp only [World.size_alloc1, World.size_drew, Nat.reduceAdd] at hO); (try simp only [upd, updI, List.map_cons, List.map_nil, eq_self, if_true, if_false, reduceIte, Nat.add_eq_left, Nat.left_eq_add, Nat.reduceEqDiff, List.set_cons_zero, List.set_cons_succ] at hO)
              have hF := hO; (try simp only [Own, Item.Holds, apartI, CellsAt, Nat.reduceAdd, Nat.zero_add, List.mem_cons, List.not_mem_nil, or_false, forall_eq_or_imp, forall_eq, ne_eq, false_imp_iff, implies_true, and_true] at hF)
              go_wp2_with fail
              go_roundw
              case rel => exact ⟨p + 2, by omega, by go_num, hO⟩
              case measure => simp [intOf]; omega
  · have hl' : (1048576 : Int) < n0 := by omega
    go_enter Tryd.func3, Tryd.ntmps3
    go_wp2
    go_ret
    exact ⟨rfl, Below.refl _ _⟩
end Go.Proofs.YtlbagckpmpdkiaaDoor
