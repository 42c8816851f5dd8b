/- The walk of the exact law of AnswerHead, from what both functions answer. -/
import Derived.Test.YtcgcnkddgihkpaaDoorCon17
import Derived.Test.YtcgcnkddgihkpaaDoorLawsX5
import Derived.Test.YtcgcnkddgihkpaaDoorRegionD
namespace Go.Proofs.YtcgcnkddgihkpaaDoor
set_option linter.unusedSimpArgs false
set_option linter.unusedVariables false
set_option maxRecDepth 8000
open Go.RowKit Go.Joins

theorem NotesAt.form17 {w : World} {v : Value} {l : List Nt} (h : NotesAt w v l) : ∃ a c, v = .slice a l.length c := by
  rcases h with ⟨rfl, a, c, rfl⟩ | h
  · exact ⟨a, c, rfl⟩
  · obtain ⟨A, c, rfl⟩ := h.form
    exact ⟨A, c, rfl⟩
theorem szN_at17 {va : Value} {l : List Nt} {n r : Int} (h0 : 0 ≤ n) (h1 : n ≤ 1000000000) (hr : (if n < (l.length : Int) then (-1 : Int) else n - (l.length : Int)) = r) (hl : l.length ≤ maxLen) (W : World) (h : NotesAt W va l) :
    Calls Tryd.prog 30 #[va, .int .i64 n] W fun e w' => e = .returned (.int .i64 r) ∧ W = w' := by
  subst hr
  exact szN_at va l n W h h0 h1 (by unfold maxLen at hl; omega)
theorem eqN17 {a : List Nt} {n : Nat} (hn : a.length = n) (va vb : Value) (W : World) (h1 : SlAt W va n 6 (vcC a)) (h2 : SlAt W vb n 6 (vcC a)) :
    Calls Tryd.prog 32 #[va, vb] W fun e w' => e = .returned (.bool true) ∧ Below W.heap.size W w' := by
  subst hn; exact eqNoteS_same va vb a W h1 h2

set_option maxRecDepth 20000 in
set_option maxHeartbeats 8000000 in
theorem xAnswerHead_of (f : Int) (mi : Bool) (va : Value) (a : List Nt) (vb : Value) (b : List Nt) (w : World) (hm : a.length ≤ maxLen) (hY : NotesAt w va a) (hm' : b.length ≤ maxLen) (hY' : NotesAt w vb b) (r1 : r64 f) (hS : CAh 29 w) (hI : CAh 28 w) :
    Calls Tryd.prog 9 #[.int .i64 f, .bool mi, va, vb] w fun e w' => e = .returned (.bool true) ∧ Below w.heap.size w w' := by
  have hO := Own.start w
  have hF := True.intro
  obtain ⟨A, c, rfl⟩ := hY.form17
  obtain ⟨A', c', rfl⟩ := hY'.form17
  by_cases hl : a.length ≤ 1048576
  · have HZ := hid (szN_is hY hm (szN_yes hl))
    have n0 : (0 : Int) ≤ 1048576 - (a.length : Int) := by omega
    have n1 : ¬ (1048576 - (a.length : Int) < 0) := by omega
    by_cases hl' : (b.length : Int) ≤ 1048576 - (a.length : Int)
    · have HZ' := hid (szN_at17 n0 (by omega) (show (if 1048576 - (a.length : Int) < (b.length : Int) then -1 else 1048576 - (a.length : Int) - (b.length : Int)) = 1048576 - (a.length : Int) - (b.length : Int) from if_neg (by omega)) hm' w hY')
      have HT := hid (fun W (hW : Below w.heap.size w W) => toNS_at _ a W (hY.below hW) hl)
      have HT' := hid (fun W (hW : Below w.heap.size w W) => toNS_at _ b W (hY'.below hW) (by omega))
      obtain ⟨z, hz⟩ : ∃ z, ahZ f mi a b = z := ⟨_, rfl⟩
      have m1 : ¬ (1048576 - (a.length : Int) - (b.length : Int) < 0) := by omega
      have m0 : (0 : Int) ≤ 1048576 - (a.length : Int) - (b.length : Int) := by omega
      obtain ⟨n, hn⟩ : ∃ n, a.length = n := ⟨_, rfl⟩
      obtain ⟨m, hm2⟩ : ∃ n, b.length = n := ⟨_, rfl⟩
      rw [hn] at HZ HT hl n0 n1 hl' HZ' m0 m1
      rw [hm2] at HT' hl' HZ' m0 m1
      have hb9 : m ≤ 1048576 := by omega
      rw [hn, hm2]
      have HS := hid (hS.is hn hm2 hl hb9 r1 hz)
      have HI := hid (hI.is hn hm2 hl hb9 r1 hz)
      have HE := hid (fun va vb W h1 h2 => eqN17 hn va vb W h1 h2)
      have HE' := hid (fun va vb W h1 h2 => eqN17 hm2 va vb W h1 h2)
      clear hY hY' hI hS hm hm' r1 hn hm2 hl hl' hz hb9
      go_enter Tryd.func9, Tryd.ntmps9
      go_wp2_with (first | ((go_at_call 30; refine (HZ.out _ (Below.refl _ _)).mono ?_; rintro e w1 ⟨rfl, rfl⟩); clear HZ) | (go_at_call 30; refine (HZ'.out).mono ?_; rintro e w1 ⟨rfl, rfl⟩))
      go_wp2_with (first | ((with_reducible (show Calls _ _ #[.slice A n c] _ _)); (go_at_call 31; apply own_at hO; (repeat (first | (with_reducible exact hO) | (with_reducible apply Own.alloc) | (with_reducible apply Own.drew) | ((with_reducible apply Own.set_at); (focus (show _ ≤ _; omega))))); have hG := hF; clear hF; clear hO; intro hO; refine own_call_row hO (fun hB => HT.out _ hB) ?_; clear hO; intro v w1 hO; (try simp only [World.size_alloc1, World.size_drew, Nat.reduceAdd] at hO); (try simp only [upd, updI, List.map_cons, List.map_nil, eq_self, if_true, if_false, reduceIte, Nat.add_eq_left, Nat.left_eq_add, Nat.reduceEqDiff, List.set_cons_zero, List.set_cons_succ, hG] at hO); clear hG; have hF := hO; (try simp only [Own, Item.Holds, apartI, CellsAt, Nat.reduceAdd, Nat.zero_add, List.mem_cons, List.not_mem_nil, or_false, forall_eq_or_imp, forall_eq, ne_eq, false_imp_iff, implies_true, and_true] at hF))) | ((with_reducible (show Calls _ _ #[.slice A' m c'] _ _)); (go_at_call 31; apply own_at hO; (repeat (first | (with_reducible exact hO) | (with_reducible apply Own.alloc) | (with_reducible apply Own.drew) | ((with_reducible apply Own.set_at); (focus (show _ ≤ _; omega))))); have hG := hF; clear hF; clear hO; intro hO; refine own_call_row hO (fun hB => HT'.out _ hB) ?_; clear hO; intro v w1 hO; (try simp only [World.size_alloc1, World.size_drew, Nat.reduceAdd] at hO); (try simp only [upd, updI, List.map_cons, List.map_nil, eq_self, if_true, if_false, reduceIte, Nat.add_eq_left, Nat.left_eq_add, Nat.reduceEqDiff, List.set_cons_zero, List.set_cons_succ, hG] at hO); clear hG; have hF := hO; (try simp only [Own, Item.Holds, apartI, CellsAt, Nat.reduceAdd, Nat.zero_add, List.mem_cons, List.not_mem_nil, or_false, forall_eq_or_imp, forall_eq, ne_eq, false_imp_iff, implies_true, and_true] at hF))) | (go_at_call 29; apply own_at hO; (repeat (first | (with_reducible exact hO) | (with_reducible apply Own.alloc) | (with_reducible apply Own.drew) | ((with_reducible apply Own.set_at); (focus (show _ ≤ _; omega))))); have hG := hF; clear hF; clear hO; intro hO; refine own_callO hO (fun hW => HS.out _ _ _ hW.base (SlAt.of_row hW.2.1.1) (SlAt.of_row hW.1.1)) ?_; clear hO; intro w1 hO; (try simp only [World.size_alloc1, World.size_drew, Nat.reduceAdd] at hO); (try simp only [upd, updI, List.map_cons, List.map_nil, eq_self, if_true, if_false, reduceIte, Nat.add_eq_left, Nat.left_eq_add, Nat.reduceEqDiff, List.set_cons_zero, List.set_cons_succ, hG] at hO); clear hG; have hF := hO; (try simp only [Own, Item.Holds, apartI, CellsAt, Nat.reduceAdd, Nat.zero_add, List.mem_cons, List.not_mem_nil, or_false, forall_eq_or_imp, forall_eq, ne_eq, false_imp_iff, implies_true, and_true] at hF)) | (go_at_call 28; apply own_at hO; (repeat (first | (with_reducible exact hO) | (with_reducible apply Own.alloc) | (with_reducible apply Own.drew) | ((with_reducible apply Own.set_at); (focus (show _ ≤ _; omega))))); have hG := hF; clear hF; clear hO; intro hO; refine own_callO hO (fun hW => HI.out _ _ _ hW.base (SlAt.of_row hW.2.1.1) (SlAt.of_row hW.1.1)) ?_; clear hO; intro w1 hO; (try simp only [World.size_alloc1, World.size_drew, Nat.reduceAdd] at hO); (try simp only [upd, updI, List.map_cons, List.map_nil, eq_self, if_true, if_false, reduceIte, Nat.add_eq_left, Nat.left_eq_add, Nat.reduceEqDiff, List.set_cons_zero, List.set_cons_succ, hG] at hO); clear hG; have hF := hO; (try simp only [Own, Item.Holds, apartI, CellsAt, Nat.reduceAdd, Nat.zero_add, List.mem_cons, List.not_mem_nil, or_false, forall_eq_or_imp, forall_eq, ne_eq, false_imp_iff, implies_true, and_true] at hF)) | ((go_at_call 32; apply own_at hO; (repeat (first | (with_reducible exact hO) | (with_reducible apply Own.alloc) | (with_reducible apply Own.drew) | ((with_reducible apply Own.set_at); (focus (show _ ≤ _; omega))))); have hG := hF; clear hF; clear hO; intro hO; refine own_callO hO (fun hW => HE.out _ _ _ (SlAt.of_row hW.2.2.1.1) (SlAt.of_row hW.1.1)) ?_; clear hO; intro w1 hO; (try simp only [World.size_alloc1, World.size_drew, Nat.reduceAdd] at hO); (try simp only [upd, updI, List.map_cons, List.map_nil, eq_self, if_true, if_false, reduceIte, Nat.add_eq_left, Nat.left_eq_add, Nat.reduceEqDiff, List.set_cons_zero, List.set_cons_succ, hG] at hO); clear hG; have hF := hO; (try simp only [Own, Item.Holds, apartI, CellsAt, Nat.reduceAdd, Nat.zero_add, List.mem_cons, List.not_mem_nil, or_false, forall_eq_or_imp, forall_eq, ne_eq, false_imp_iff, implies_true, and_true] at hF)); clear HE) | (go_at_call 32; apply own_at hO; (repeat (first | (with_reducible exact hO) | (with_reducible apply Own.alloc) | (with_reducible apply Own.drew) | ((with_reducible apply Own.set_at); (focus (show _ ≤ _; omega))))); have hG := hF; clear hF; clear hO; intro hO; refine own_callO hO (fun hW => HE'.out _ _ _ (SlAt.of_row hW.2.2.1.1) (SlAt.of_row hW.1.1)) ?_; clear hO; intro w1 hO; (try simp only [World.size_alloc1, World.size_drew, Nat.reduceAdd] at hO); (try simp only [upd, updI, List.map_cons, List.map_nil, eq_self, if_true, if_false, reduceIte, Nat.add_eq_left, Nat.left_eq_add, Nat.reduceEqDiff, List.set_cons_zero, List.set_cons_succ, hG] at hO); clear hG; have hF := hO; (try simp only [Own, Item.Holds, apartI, CellsAt, Nat.reduceAdd, Nat.zero_add, List.mem_cons, List.not_mem_nil, or_false, forall_eq_or_imp, forall_eq, ne_eq, false_imp_iff, implies_true, and_true] at hF)))
      go_ret
      exact ⟨rfl, Own.base (by (repeat (first | (with_reducible exact hO) | (with_reducible apply Own.alloc) | (with_reducible apply Own.drew) | ((with_reducible apply Own.set_at); (focus (show _ ≤ _; omega))))))⟩
    · have HZ' := hid (szN_at17 n0 (by omega) (show (if 1048576 - (a.length : Int) < (b.length : Int) then -1 else 1048576 - (a.length : Int) - (b.length : Int)) = -1 from if_pos (by omega)) hm' w hY')
      obtain ⟨n, hn⟩ : ∃ n, a.length = n := ⟨_, rfl⟩
      obtain ⟨m, hm2⟩ : ∃ n, b.length = n := ⟨_, rfl⟩
      rw [hn] at HZ n0 n1 HZ'
      rw [hm2] at HZ'
      rw [hn, hm2]
      clear hY hY' hI hS hm hm' r1 hn hm2 hl hl'
      go_enter Tryd.func9, Tryd.ntmps9
      go_wp2_with (first | ((go_at_call 30; refine (HZ.out _ (Below.refl _ _)).mono ?_; rintro e w1 ⟨rfl, rfl⟩); clear HZ) | (go_at_call 30; refine (HZ'.out).mono ?_; rintro e w1 ⟨rfl, rfl⟩))
      go_ret
      exact ⟨rfl, Below.refl _ _⟩
  · have HZ := hid (szN_is hY hm (szN_no (by omega)))
    clear hY hY' hI hS hm hm' r1 hl
    go_enter Tryd.func9, Tryd.ntmps9
    go_wp2_with ((go_at_call 30; refine (HZ.out _ (Below.refl _ _)).mono ?_; rintro e w1 ⟨rfl, rfl⟩))
    go_ret
    exact ⟨rfl, Below.refl _ _⟩


end Go.Proofs.YtcgcnkddgihkpaaDoor
