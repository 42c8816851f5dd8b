/- The walk of FnExactMoveFault, from a contract. -/
import Derived.Test.YtcmhfjpofkgjbaaDoorLaws12M
import Derived.Test.YtcmhfjpofkgjbaaDoorLawsX10
import Derived.Test.YtcmhfjpofkgjbaaDoorStks2
namespace Go.Proofs.YtcmhfjpofkgjbaaDoor
set_option linter.unusedSimpArgs false
set_option linter.unusedVariables false
set_option maxRecDepth 8000
open Go.RowKit

set_option maxHeartbeats 4000000 in
theorem xMoveFault_of (va : Value) (a : List Pt) (vb : Value) (b : List Pt) (w : World) (hm : a.length ≤ maxLen) (h64 : ∀ x ∈ a, p64s x) (hY : PtsAt w va a) (hm' : b.length ≤ maxLen) (h64' : ∀ x ∈ b, p64s x) (hY' : PtsAt w vb b) (hI : CMv 15 w) :
    Calls Tryd.prog 7 #[va, vb] w fun e w' => e = .returned (.bool true) ∧ Below w.heap.size w w' := by
  have hO := Own.start w
  have hF := True.intro
  obtain ⟨A, c, rfl⟩ := hY.form
  obtain ⟨A', c', rfl⟩ := hY'.form
  by_cases hl : a.length ≤ 1048576
  · have HZ := hid (szP_is hY hm (szP_yes hl))
    have n0 : (0 : Int) ≤ 1048576 - (a.length : Int) := by omega
    have n1 : ¬ (1048576 - (a.length : Int) < 0) := by omega
    by_cases hl' : (b.length : Int) ≤ 1048576 - (a.length : Int)
    · have HZ' := hid (szP_at n0 (by omega) (show (if 1048576 - (a.length : Int) < (b.length : Int) then -1 else 1048576 - (a.length : Int) - (b.length : Int)) = 1048576 - (a.length : Int) - (b.length : Int) from if_neg (by omega)) hY'.len w hY')
      have HT := hid (fun W (hW : Below w.heap.size w W) => toPS_any _ a W (hY.below hW) hl)
      have HT' := hid (fun W (hW : Below w.heap.size w W) => toPS_any _ b W (hY'.below hW) (by omega))
      obtain ⟨z, hz⟩ : ∃ z, mvZ a b = z := ⟨_, rfl⟩
      have m1 : ¬ (1048576 - (a.length : Int) - (b.length : Int) < 0) := by omega
      have m0 : (0 : Int) ≤ 1048576 - (a.length : Int) - (b.length : Int) := by omega
      obtain ⟨n, hn⟩ : ∃ n, a.length = n := ⟨_, rfl⟩
      obtain ⟨m, hm2⟩ : ∃ n, b.length = n := ⟨_, rfl⟩
      rw [hn] at HZ HT hl n0 n1 hl' HZ' m0 m1
      rw [hm2] at HT' hl' HZ' m0 m1
      have hb9 : m ≤ 1048576 := by omega
      rw [hn, hm2]
      have HS := hid ((mvS_C w).is hn hm2 hl hb9 h64 h64' hz)
      have HI := hid (hI.is hn hm2 hl hb9 h64 h64' hz)
      have HE := hid (fun va vb W (h1 : SlAt W va n 3 (pcC a)) (h2 : SlAt W vb n 3 (pcC a)) => eqPS_same va vb n (pcC a) W h1 h2 (pcC_int a))
      have HE' := hid (fun va vb W (h1 : SlAt W va m 3 (pcC b)) (h2 : SlAt W vb m 3 (pcC b)) => eqPS_same va vb m (pcC b) W h1 h2 (pcC_int b))
      clear hY hY' hI hm hm' hn hm2 hl hl' h64 h64' hz hb9
      go_enter Tryd.func7, Tryd.ntmps7
      go_wp2_with (first | ((go_at_call 20; refine (HZ.out _ (Below.refl _ _)).mono ?_; rintro e w1 ⟨rfl, rfl⟩); clear HZ) | (go_at_call 20; refine (HZ'.out).mono ?_; rintro e w1 ⟨rfl, rfl⟩))
      go_wp2_with (first | ((with_reducible (show Calls _ _ #[.slice A n c] _ _)); (go_at_call 21; apply own_at hO; (repeat (first | (with_reducible exact hO) | (with_reducible apply Own.alloc) | (with_reducible apply Own.drew) | ((with_reducible apply Own.set_at); (focus (show _ ≤ _; omega))))); have hG := hF; clear hF; clear hO; intro hO; refine own_call_row hO (fun hB => HT.out _ hB) ?_; clear hO; intro v w1 hO; (try simp only [World.size_alloc1, World.size_drew, Nat.reduceAdd] at hO); (try simp only [upd, updI, List.map_cons, List.map_nil, eq_self, if_true, if_false, reduceIte, Nat.add_eq_left, Nat.left_eq_add, Nat.reduceEqDiff, List.set_cons_zero, List.set_cons_succ, hG] at hO); clear hG; have hF := hO; (try simp only [Own, Item.Holds, apartI, CellsAt, Nat.reduceAdd, Nat.zero_add, List.mem_cons, List.not_mem_nil, or_false, forall_eq_or_imp, forall_eq, ne_eq, false_imp_iff, implies_true, and_true] at hF))) | ((with_reducible (show Calls _ _ #[.slice A' m c'] _ _)); (go_at_call 21; apply own_at hO; (repeat (first | (with_reducible exact hO) | (with_reducible apply Own.alloc) | (with_reducible apply Own.drew) | ((with_reducible apply Own.set_at); (focus (show _ ≤ _; omega))))); have hG := hF; clear hF; clear hO; intro hO; refine own_call_row hO (fun hB => HT'.out _ hB) ?_; clear hO; intro v w1 hO; (try simp only [World.size_alloc1, World.size_drew, Nat.reduceAdd] at hO); (try simp only [upd, updI, List.map_cons, List.map_nil, eq_self, if_true, if_false, reduceIte, Nat.add_eq_left, Nat.left_eq_add, Nat.reduceEqDiff, List.set_cons_zero, List.set_cons_succ, hG] at hO); clear hG; have hF := hO; (try simp only [Own, Item.Holds, apartI, CellsAt, Nat.reduceAdd, Nat.zero_add, List.mem_cons, List.not_mem_nil, or_false, forall_eq_or_imp, forall_eq, ne_eq, false_imp_iff, implies_true, and_true] at hF))) | (go_at_call 16; apply own_at hO; (repeat (first | (with_reducible exact hO) | (with_reducible apply Own.alloc) | (with_reducible apply Own.drew) | ((with_reducible apply Own.set_at); (focus (show _ ≤ _; omega))))); have hG := hF; clear hF; clear hO; intro hO; refine own_callO hO (fun hW => HS.out _ _ _ hW.base (SlAt.of_row hW.2.1.1) (SlAt.of_row hW.1.1)) ?_; clear hO; intro w1 hO; (try simp only [World.size_alloc1, World.size_drew, Nat.reduceAdd] at hO); (try simp only [upd, updI, List.map_cons, List.map_nil, eq_self, if_true, if_false, reduceIte, Nat.add_eq_left, Nat.left_eq_add, Nat.reduceEqDiff, List.set_cons_zero, List.set_cons_succ, hG] at hO); clear hG; have hF := hO; (try simp only [Own, Item.Holds, apartI, CellsAt, Nat.reduceAdd, Nat.zero_add, List.mem_cons, List.not_mem_nil, or_false, forall_eq_or_imp, forall_eq, ne_eq, false_imp_iff, implies_true, and_true] at hF)) | (go_at_call 15; apply own_at hO; (repeat (first | (with_reducible exact hO) | (with_reducible apply Own.alloc) | (with_reducible apply Own.drew) | ((with_reducible apply Own.set_at); (focus (show _ ≤ _; omega))))); have hG := hF; clear hF; clear hO; intro hO; refine own_callO hO (fun hW => HI.out _ _ _ hW.base (SlAt.of_row hW.2.1.1) (SlAt.of_row hW.1.1)) ?_; clear hO; intro w1 hO; (try simp only [World.size_alloc1, World.size_drew, Nat.reduceAdd] at hO); (try simp only [upd, updI, List.map_cons, List.map_nil, eq_self, if_true, if_false, reduceIte, Nat.add_eq_left, Nat.left_eq_add, Nat.reduceEqDiff, List.set_cons_zero, List.set_cons_succ, hG] at hO); clear hG; have hF := hO; (try simp only [Own, Item.Holds, apartI, CellsAt, Nat.reduceAdd, Nat.zero_add, List.mem_cons, List.not_mem_nil, or_false, forall_eq_or_imp, forall_eq, ne_eq, false_imp_iff, implies_true, and_true] at hF)) | ((go_at_call 22; apply own_at hO; (repeat (first | (with_reducible exact hO) | (with_reducible apply Own.alloc) | (with_reducible apply Own.drew) | ((with_reducible apply Own.set_at); (focus (show _ ≤ _; omega))))); have hG := hF; clear hF; clear hO; intro hO; refine own_callO hO (fun hW => HE.out _ _ _ (SlAt.of_row hW.2.2.1.1) (SlAt.of_row hW.1.1)) ?_; clear hO; intro w1 hO; (try simp only [World.size_alloc1, World.size_drew, Nat.reduceAdd] at hO); (try simp only [upd, updI, List.map_cons, List.map_nil, eq_self, if_true, if_false, reduceIte, Nat.add_eq_left, Nat.left_eq_add, Nat.reduceEqDiff, List.set_cons_zero, List.set_cons_succ, hG] at hO); clear hG; have hF := hO; (try simp only [Own, Item.Holds, apartI, CellsAt, Nat.reduceAdd, Nat.zero_add, List.mem_cons, List.not_mem_nil, or_false, forall_eq_or_imp, forall_eq, ne_eq, false_imp_iff, implies_true, and_true] at hF)); clear HE) | (go_at_call 22; apply own_at hO; (repeat (first | (with_reducible exact hO) | (with_reducible apply Own.alloc) | (with_reducible apply Own.drew) | ((with_reducible apply Own.set_at); (focus (show _ ≤ _; omega))))); have hG := hF; clear hF; clear hO; intro hO; refine own_callO hO (fun hW => HE'.out _ _ _ (SlAt.of_row hW.2.2.1.1) (SlAt.of_row hW.1.1)) ?_; clear hO; intro w1 hO; (try simp only [World.size_alloc1, World.size_drew, Nat.reduceAdd] at hO); (try simp only [upd, updI, List.map_cons, List.map_nil, eq_self, if_true, if_false, reduceIte, Nat.add_eq_left, Nat.left_eq_add, Nat.reduceEqDiff, List.set_cons_zero, List.set_cons_succ, hG] at hO); clear hG; have hF := hO; (try simp only [Own, Item.Holds, apartI, CellsAt, Nat.reduceAdd, Nat.zero_add, List.mem_cons, List.not_mem_nil, or_false, forall_eq_or_imp, forall_eq, ne_eq, false_imp_iff, implies_true, and_true] at hF)))
      go_ret
      exact ⟨rfl, Own.base (by (repeat (first | (with_reducible exact hO) | (with_reducible apply Own.alloc) | (with_reducible apply Own.drew) | ((with_reducible apply Own.set_at); (focus (show _ ≤ _; omega))))))⟩
    · have HZ' := hid (szP_at n0 (by omega) (show (if 1048576 - (a.length : Int) < (b.length : Int) then -1 else 1048576 - (a.length : Int) - (b.length : Int)) = -1 from if_pos (by omega)) hY'.len w hY')
      obtain ⟨n, hn⟩ : ∃ n, a.length = n := ⟨_, rfl⟩
      obtain ⟨m, hm2⟩ : ∃ n, b.length = n := ⟨_, rfl⟩
      rw [hn] at HZ n0 n1 HZ'
      rw [hm2] at HZ'
      rw [hn, hm2]
      clear hY hY' hI hm hm' hn hm2 hl hl' h64 h64'
      go_enter Tryd.func7, Tryd.ntmps7
      go_wp2_with (first | ((go_at_call 20; refine (HZ.out _ (Below.refl _ _)).mono ?_; rintro e w1 ⟨rfl, rfl⟩); clear HZ) | (go_at_call 20; refine (HZ'.out).mono ?_; rintro e w1 ⟨rfl, rfl⟩))
      go_ret
      exact ⟨rfl, Below.refl _ _⟩
  · have HZ := hid (szP_is hY hm (szP_no (by omega)))
    clear hY hY' hI hm hm' hl h64 h64'
    go_enter Tryd.func7, Tryd.ntmps7
    go_wp2_with ((go_at_call 20; refine (HZ.out _ (Below.refl _ _)).mono ?_; rintro e w1 ⟨rfl, rfl⟩))
    go_ret
    exact ⟨rfl, Below.refl _ _⟩
end Go.Proofs.YtcmhfjpofkgjbaaDoor
