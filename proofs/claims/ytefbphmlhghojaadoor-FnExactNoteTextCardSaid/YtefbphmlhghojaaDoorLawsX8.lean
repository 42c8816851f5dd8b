/- The walks of the exact laws of chapter 8, from what the program's functions answer. -/
import Derived.Test.YtefbphmlhghojaaDoorWalks8N
import Derived.Test.YtefbphmlhghojaaDoorLawsX5
namespace Go.Proofs.YtefbphmlhghojaaDoor
set_option linter.unusedSimpArgs false
set_option linter.unusedVariables false
open Go.RowKit

set_option maxHeartbeats 1000000 in
theorem xNoteText_of (x : Nt) (w : World) (hI : CNoteText 10 w) :
    Calls Tryd.prog 7 #[.agg #[.bool x.r, .int .i64 x.s, .int .i64 x.a, .int .i64 x.o, .int .i64 x.t, .bool x.y]] w fun e w' => e = .returned (.bool true) ∧ Below w.heap.size w w' := by
  have hO := Own.start w
  have hF := True.intro
  obtain ⟨T, hT⟩ : ∃ T, ntB x = T := ⟨_, rfl⟩
  have HI := hid (hI.is hT)
  have HS := hid ((ntS_C w).is hT)
  have hss := str_eq (rfl : T = T)
  clear hI hT
  go_enter Tryd.func7, Tryd.ntmps7
  go_wp2_with (first | (go_at_call 26; apply own_at hO; (repeat (first | (with_reducible exact hO) | (with_reducible apply Own.alloc) | (with_reducible apply Own.drew) | ((with_reducible apply Own.set_at); (focus (show _ ≤ _; omega))))); have hG := hF; clear hF; clear hO; intro hO; refine own_call hO (fun hB => toNote_any x _) ?_; clear hO; intro w1 hO; (try simp only [World.size_alloc1, World.size_drew, Nat.reduceAdd] at hO); (try simp only [upd, updI, List.map_cons, List.map_nil, eq_self, if_true, if_false, reduceIte, Nat.add_eq_left, Nat.left_eq_add, Nat.reduceEqDiff, List.set_cons_zero, List.set_cons_succ, hG] at hO); clear hG; have hF := hO; (try simp only [Own, Item.Holds, apartI, CellsAt, Nat.reduceAdd, Nat.zero_add, List.mem_cons, List.not_mem_nil, or_false, forall_eq_or_imp, forall_eq, ne_eq, false_imp_iff, implies_true, and_true] at hF)) | (go_at_call 11; apply own_at hO; (repeat (first | (with_reducible exact hO) | (with_reducible apply Own.alloc) | (with_reducible apply Own.drew) | ((with_reducible apply Own.set_at); (focus (show _ ≤ _; omega))))); have hG := hF; clear hF; clear hO; intro hO; refine own_call hO (fun hB => HS.out _ hB) ?_; clear hO; intro w1 hO; (try simp only [World.size_alloc1, World.size_drew, Nat.reduceAdd] at hO); (try simp only [upd, updI, List.map_cons, List.map_nil, eq_self, if_true, if_false, reduceIte, Nat.add_eq_left, Nat.left_eq_add, Nat.reduceEqDiff, List.set_cons_zero, List.set_cons_succ, hG] at hO); clear hG; have hF := hO; (try simp only [Own, Item.Holds, apartI, CellsAt, Nat.reduceAdd, Nat.zero_add, List.mem_cons, List.not_mem_nil, or_false, forall_eq_or_imp, forall_eq, ne_eq, false_imp_iff, implies_true, and_true] at hF)) | (go_at_call 10; apply own_at hO; (repeat (first | (with_reducible exact hO) | (with_reducible apply Own.alloc) | (with_reducible apply Own.drew) | ((with_reducible apply Own.set_at); (focus (show _ ≤ _; omega))))); have hG := hF; clear hF; clear hO; intro hO; refine own_call hO (fun hB => HI.out _ hB) ?_; clear hO; intro w1 hO; (try simp only [World.size_alloc1, World.size_drew, Nat.reduceAdd] at hO); (try simp only [upd, updI, List.map_cons, List.map_nil, eq_self, if_true, if_false, reduceIte, Nat.add_eq_left, Nat.left_eq_add, Nat.reduceEqDiff, List.set_cons_zero, List.set_cons_succ, hG] at hO); clear hG; have hF := hO; (try simp only [Own, Item.Holds, apartI, CellsAt, Nat.reduceAdd, Nat.zero_add, List.mem_cons, List.not_mem_nil, or_false, forall_eq_or_imp, forall_eq, ne_eq, false_imp_iff, implies_true, and_true] at hF)))
  go_ret
  exact ⟨rfl, Own.base (by (repeat (first | (with_reducible exact hO) | (with_reducible apply Own.alloc) | (with_reducible apply Own.drew) | ((with_reducible apply Own.set_at); (focus (show _ ≤ _; omega))))))⟩

set_option maxHeartbeats 4000000 in
theorem xVoiceText_of (va : Value) (l : List Nt) (w : World) (hm : l.length ≤ maxLen) (hY : NotesAt w va l) (hI : CVoiceText 18 w) :
    Calls Tryd.prog 8 #[va] w fun e w' => e = .returned (.bool true) ∧ Below w.heap.size w w' := by
  have hO := Own.start w
  have hF := True.intro
  by_cases hl : l.length ≤ 1048576
  · have HZ := hid (szN_is hY hm (szN_yes hl))
    have HT := hid (fun W (hW : Below w.heap.size w W) => toNS_at va l W (hY.below hW) hl)
    obtain ⟨T, hb⟩ : ∃ T, vxB l = T := ⟨_, rfl⟩
    obtain ⟨n, hn⟩ : ∃ n, l.length = n := ⟨_, rfl⟩
    rw [hn] at HZ HT hl
    have HS := hid ((vxS_C w).is hn hl hb)
    have HI := hid (hI.is hn hl hb)
    have HE := hid (fun va vb W (h1 : SlAt W va n 6 (vcC l)) (h2 : SlAt W vb n 6 (vcC l)) => eqNoteS_same va vb l W (by rw [hn]; exact h1) (by rw [hn]; exact h2))
    have n0 : (0 : Int) ≤ 1048576 - (n : Int) := by omega
    have n1 : ¬ (1048576 - (n : Int) < 0) := by omega
    have hss := str_eq (rfl : T = T)
    clear hY hI hm hn hb hl
    go_enter Tryd.func8, Tryd.ntmps8
    go_wp2_with (first | (go_at_call 27; refine (HZ.out _ (Below.refl _ _)).mono ?_; rintro e w1 ⟨rfl, rfl⟩) | (go_at_call 28; apply own_at hO; (repeat (first | (with_reducible exact hO) | (with_reducible apply Own.alloc) | (with_reducible apply Own.drew) | ((with_reducible apply Own.set_at); (focus (show _ ≤ _; omega))))); have hG := hF; clear hF; clear hO; intro hO; refine own_call_row hO (fun hB => HT.out _ hB) ?_; clear hO; intro v w1 hO; (try simp only [World.size_alloc1, World.size_drew, Nat.reduceAdd] at hO); (try simp only [upd, updI, List.map_cons, List.map_nil, eq_self, if_true, if_false, reduceIte, Nat.add_eq_left, Nat.left_eq_add, Nat.reduceEqDiff, List.set_cons_zero, List.set_cons_succ, hG] at hO); clear hG; have hF := hO; (try simp only [Own, Item.Holds, apartI, CellsAt, Nat.reduceAdd, Nat.zero_add, List.mem_cons, List.not_mem_nil, or_false, forall_eq_or_imp, forall_eq, ne_eq, false_imp_iff, implies_true, and_true] at hF)) | (go_at_call 19; apply own_at hO; (repeat (first | (with_reducible exact hO) | (with_reducible apply Own.alloc) | (with_reducible apply Own.drew) | ((with_reducible apply Own.set_at); (focus (show _ ≤ _; omega))))); have hG := hF; clear hF; clear hO; intro hO; refine own_callO hO (fun hW => HS.out _ _ hW.base (SlAt.of_row hW.1.1)) ?_; clear hO; intro w1 hO; (try simp only [World.size_alloc1, World.size_drew, Nat.reduceAdd] at hO); (try simp only [upd, updI, List.map_cons, List.map_nil, eq_self, if_true, if_false, reduceIte, Nat.add_eq_left, Nat.left_eq_add, Nat.reduceEqDiff, List.set_cons_zero, List.set_cons_succ, hG] at hO); clear hG; have hF := hO; (try simp only [Own, Item.Holds, apartI, CellsAt, Nat.reduceAdd, Nat.zero_add, List.mem_cons, List.not_mem_nil, or_false, forall_eq_or_imp, forall_eq, ne_eq, false_imp_iff, implies_true, and_true] at hF)) | (go_at_call 18; apply own_at hO; (repeat (first | (with_reducible exact hO) | (with_reducible apply Own.alloc) | (with_reducible apply Own.drew) | ((with_reducible apply Own.set_at); (focus (show _ ≤ _; omega))))); have hG := hF; clear hF; clear hO; intro hO; refine own_callO hO (fun hW => HI.out _ _ hW.base (SlAt.of_row hW.1.1)) ?_; clear hO; intro w1 hO; (try simp only [World.size_alloc1, World.size_drew, Nat.reduceAdd] at hO); (try simp only [upd, updI, List.map_cons, List.map_nil, eq_self, if_true, if_false, reduceIte, Nat.add_eq_left, Nat.left_eq_add, Nat.reduceEqDiff, List.set_cons_zero, List.set_cons_succ, hG] at hO); clear hG; have hF := hO; (try simp only [Own, Item.Holds, apartI, CellsAt, Nat.reduceAdd, Nat.zero_add, List.mem_cons, List.not_mem_nil, or_false, forall_eq_or_imp, forall_eq, ne_eq, false_imp_iff, implies_true, and_true] at hF)) | (go_at_call 29; apply own_at hO; (repeat (first | (with_reducible exact hO) | (with_reducible apply Own.alloc) | (with_reducible apply Own.drew) | ((with_reducible apply Own.set_at); (focus (show _ ≤ _; omega))))); have hG := hF; clear hF; clear hO; intro hO; refine own_callO hO (fun hW => HE.out _ _ _ (SlAt.of_row hW.2.1.1) (SlAt.of_row hW.1.1)) ?_; clear hO; intro w1 hO; (try simp only [World.size_alloc1, World.size_drew, Nat.reduceAdd] at hO); (try simp only [upd, updI, List.map_cons, List.map_nil, eq_self, if_true, if_false, reduceIte, Nat.add_eq_left, Nat.left_eq_add, Nat.reduceEqDiff, List.set_cons_zero, List.set_cons_succ, hG] at hO); clear hG; have hF := hO; (try simp only [Own, Item.Holds, apartI, CellsAt, Nat.reduceAdd, Nat.zero_add, List.mem_cons, List.not_mem_nil, or_false, forall_eq_or_imp, forall_eq, ne_eq, false_imp_iff, implies_true, and_true] at hF)))
    go_ret
    exact ⟨rfl, Own.base (by (repeat (first | (with_reducible exact hO) | (with_reducible apply Own.alloc) | (with_reducible apply Own.drew) | ((with_reducible apply Own.set_at); (focus (show _ ≤ _; omega))))))⟩
  · have HZ := hid (szN_is hY hm (szN_no (by omega)))
    clear hY hI hm hl
    go_enter Tryd.func8, Tryd.ntmps8
    go_wp2_with ((go_at_call 27; refine (HZ.out _ (Below.refl _ _)).mono ?_; rintro e w1 ⟨rfl, rfl⟩))
    go_ret
    exact ⟨rfl, Below.refl _ _⟩

theorem rvL_len (s : ByteArray) : (rvL s).length ≤ 60 := by
  cases hb : rvB s
  · rw [rvL_no hb]; simp
  · exact (voB_iff.1 (rv_is hb).1).2