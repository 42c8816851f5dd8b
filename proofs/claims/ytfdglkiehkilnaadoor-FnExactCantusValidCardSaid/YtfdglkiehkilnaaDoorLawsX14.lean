/- The walks of the exact laws of chapter 14, from what the program's functions answer. -/
import Derived.Test.YtfdglkiehkilnaaDoorCon14
import Derived.Test.YtfdglkiehkilnaaDoorLawsX10
import Derived.Test.YtfdglkiehkilnaaDoorStks2
import Derived.Test.YtfdglkiehkilnaaDoorWalksFS
import Derived.Test.YtfdglkiehkilnaaDoorRegionD
namespace Go.Proofs.YtfdglkiehkilnaaDoor
set_option linter.unusedSimpArgs false
set_option linter.unusedVariables false
set_option maxRecDepth 8000
open Go.RowKit

set_option maxHeartbeats 4000000 in
theorem xCantusValid_of (f : Int) (va : Value) (l : List Pt) (w : World) (hm : l.length ≤ maxLen) (hY : PtsAt w va l) (hI : CCv 13 w) :
    Calls Tryd.prog 6 #[.int .i64 f, va] w fun e w' => e = .returned (.bool true) ∧ Below w.heap.size w w' := by
  have hO := Own.start w
  have hF := True.intro
  by_cases hl : l.length ≤ 1048576
  · have HZ := hid (szP_is hY hm (szP_yes hl))
    have HT := hid (fun W (hW : Below w.heap.size w W) => toPS_any va l W (hY.below hW) hl)
    obtain ⟨o, ho⟩ : ∃ o, cvB f l = o := ⟨_, rfl⟩
    obtain ⟨n, hn⟩ : ∃ n, l.length = n := ⟨_, rfl⟩
    rw [hn] at HZ HT hl
    have HS := hid ((cvS_C w).is hn hl ho)
    have HI := hid (hI.is hn hl ho)
    have HE := hid (fun va vb W (h1 : SlAt W va n 3 (pcC l)) (h2 : SlAt W vb n 3 (pcC l)) => eqPS_same va vb n (pcC l) W h1 h2 (pcC_int l))
    have n0 : (0 : Int) ≤ 1048576 - (n : Int) := by omega
    have n1 : ¬ (1048576 - (n : Int) < 0) := by omega
    clear hY hI hm hn ho hl
    go_enter Tryd.func6, Tryd.ntmps6
    go_wp2_with (first | (go_at_call 24; refine (HZ.out _ (Below.refl _ _)).mono ?_; rintro e w1 ⟨rfl, rfl⟩) | (go_at_call 25; apply own_at hO; (repeat (first | (with_reducible exact hO) | (with_reducible apply Own.alloc) | (with_reducible apply Own.drew) | ((with_reducible apply Own.set_at); (focus (show _ ≤ _; omega))))); have hG := hF; clear hF; clear hO; intro hO; refine own_call_row hO (fun hB => HT.out _ hB) ?_; clear hO; intro v w1 hO; (try simp only [World.size_alloc1, World.size_drew, Nat.reduceAdd] at hO); (try simp only [upd, updI, List.map_cons, List.map_nil, eq_self, if_true, if_false, reduceIte, Nat.add_eq_left, Nat.left_eq_add, Nat.reduceEqDiff, List.set_cons_zero, List.set_cons_succ, hG] at hO); clear hG; have hF := hO; (try simp only [Own, Item.Holds, apartI, CellsAt, Nat.reduceAdd, Nat.zero_add, List.mem_cons, List.not_mem_nil, or_false, forall_eq_or_imp, forall_eq, ne_eq, false_imp_iff, implies_true, and_true] at hF)) | (go_at_call 14; apply own_at hO; (repeat (first | (with_reducible exact hO) | (with_reducible apply Own.alloc) | (with_reducible apply Own.drew) | ((with_reducible apply Own.set_at); (focus (show _ ≤ _; omega))))); have hG := hF; clear hF; clear hO; intro hO; refine own_callO hO (fun hW => HS.out _ _ hW.base (SlAt.of_row hW.1.1)) ?_; clear hO; intro w1 hO; (try simp only [World.size_alloc1, World.size_drew, Nat.reduceAdd] at hO); (try simp only [upd, updI, List.map_cons, List.map_nil, eq_self, if_true, if_false, reduceIte, Nat.add_eq_left, Nat.left_eq_add, Nat.reduceEqDiff, List.set_cons_zero, List.set_cons_succ, hG] at hO); clear hG; have hF := hO; (try simp only [Own, Item.Holds, apartI, CellsAt, Nat.reduceAdd, Nat.zero_add, List.mem_cons, List.not_mem_nil, or_false, forall_eq_or_imp, forall_eq, ne_eq, false_imp_iff, implies_true, and_true] at hF)) | (go_at_call 13; apply own_at hO; (repeat (first | (with_reducible exact hO) | (with_reducible apply Own.alloc) | (with_reducible apply Own.drew) | ((with_reducible apply Own.set_at); (focus (show _ ≤ _; omega))))); have hG := hF; clear hF; clear hO; intro hO; refine own_callO hO (fun hW => HI.out _ _ hW.base (SlAt.of_row hW.1.1)) ?_; clear hO; intro w1 hO; (try simp only [World.size_alloc1, World.size_drew, Nat.reduceAdd] at hO); (try simp only [upd, updI, List.map_cons, List.map_nil, eq_self, if_true, if_false, reduceIte, Nat.add_eq_left, Nat.left_eq_add, Nat.reduceEqDiff, List.set_cons_zero, List.set_cons_succ, hG] at hO); clear hG; have hF := hO; (try simp only [Own, Item.Holds, apartI, CellsAt, Nat.reduceAdd, Nat.zero_add, List.mem_cons, List.not_mem_nil, or_false, forall_eq_or_imp, forall_eq, ne_eq, false_imp_iff, implies_true, and_true] at hF)) | (go_at_call 26; apply own_at hO; (repeat (first | (with_reducible exact hO) | (with_reducible apply Own.alloc) | (with_reducible apply Own.drew) | ((with_reducible apply Own.set_at); (focus (show _ ≤ _; omega))))); have hG := hF; clear hF; clear hO; intro hO; refine own_callO hO (fun hW => HE.out _ _ _ (SlAt.of_row hW.2.1.1) (SlAt.of_row hW.1.1)) ?_; clear hO; intro w1 hO; (try simp only [World.size_alloc1, World.size_drew, Nat.reduceAdd] at hO); (try simp only [upd, updI, List.map_cons, List.map_nil, eq_self, if_true, if_false, reduceIte, Nat.add_eq_left, Nat.left_eq_add, Nat.reduceEqDiff, List.set_cons_zero, List.set_cons_succ, hG] at hO); clear hG; have hF := hO; (try simp only [Own, Item.Holds, apartI, CellsAt, Nat.reduceAdd, Nat.zero_add, List.mem_cons, List.not_mem_nil, or_false, forall_eq_or_imp, forall_eq, ne_eq, false_imp_iff, implies_true, and_true] at hF)))
    go_ret
    exact ⟨rfl, Own.base (by (repeat (first | (with_reducible exact hO) | (with_reducible apply Own.alloc) | (with_reducible apply Own.drew) | ((with_reducible apply Own.set_at); (focus (show _ ≤ _; omega))))))⟩
  · have HZ := hid (szP_is hY hm (szP_no (by omega)))
    clear hY hI hm hl
    go_enter Tryd.func6, Tryd.ntmps6
    go_wp2_with ((go_at_call 24; refine (HZ.out _ (Below.refl _ _)).mono ?_; rintro e w1 ⟨rfl, rfl⟩))
    go_ret
    exact ⟨rfl, Below.refl _ _⟩

set_option maxHeartbeats 4000000 in
theorem xLineGood_of (f : Int) (va : Value) (a : List Pt) (vb : Value) (b : List Pt) (w : World) (hm : a.length ≤ maxLen) (hY : PtsAt w va a) (hm' : b.length ≤ maxLen) (hY' : PtsAt w vb b) (hI : CLg 19 w) :
    Calls Tryd.prog 8 #[.int .i64 f, va, vb] w fun e w' => e = .returned (.bool true) ∧ Below w.heap.size w w' := by
  have hO := Own.start w
  have hF := True.intro
  obtain ⟨A, c, rfl⟩ := hY.form
  obtain ⟨A', c', rfl⟩ := hY'.form
  by_cases hl : a.length ≤ 1048576
  · have HZ := hid (szP_is hY hm (szP_yes hl))
    have n0 : (0 : Int) ≤ 1048576 - (a.length : Int) := by omega
    have n1 : ¬ (1048576 - (a.length : Int) < 0) := by omega
    by_cases hl' : (b.length : Int) ≤ 1048576 - (a.length : Int)
    · have HZ' := hid (szP_at n0 (by omega) (show (if 1048576 - (a.length : Int) < (b.length : Int) then -1 else 1048576 - (a.length : Int) - (b.length : Int)) = 1048576 - (a.length : Int) - (b.length : Int) from if_neg (by omega)) hY'.len w hY')
      have HT := hid (fun W (hW : Below w.heap.size w W) => toPS_any _ a W (hY.below hW) hl)
      have HT' := hid (fun W (hW : Below w.heap.size w W) => toPS_any _ b W (hY'.below hW) (by omega))
      obtain ⟨z, hz⟩ : ∃ z, lgB f a b = z := ⟨_, rfl⟩
      have m1 : ¬ (1048576 - (a.length : Int) - (b.length : Int) < 0) := by omega
      have m0 : (0 : Int) ≤ 1048576 - (a.length : Int) - (b.length : Int) := by omega
      obtain ⟨n, hn⟩ : ∃ n, a.length = n := ⟨_, rfl⟩
      obtain ⟨m, hm2⟩ : ∃ n, b.length = n := ⟨_, rfl⟩
      rw [hn] at HZ HT hl n0 n1 hl' HZ' m0 m1
      rw [hm2] at HT' hl' HZ' m0 m1
      have hb9 : m ≤ 1048576 := by omega
      rw [hn, hm2]
      have HS := hid ((lgS_C w).is hn hm2 hl hb9 hz)
      have HI := hid (hI.is hn hm2 hl hb9 hz)
      have HE := hid (fun va vb W (h1 : SlAt W va n 3 (pcC a)) (h2 : SlAt W vb n 3 (pcC a)) => eqPS_same va vb n (pcC a) W h1 h2 (pcC_int a))
      have HE' := hid (fun va vb W (h1 : SlAt W va m 3 (pcC b)) (h2 : SlAt W vb m 3 (pcC b)) => eqPS_same va vb m (pcC b) W h1 h2 (pcC_int b))
      clear hY hY' hI hm hm' hn hm2 hl hl' hz hb9
      go_enter Tryd.func8, Tryd.ntmps8
      go_wp2_with (first | ((go_at_call 24; refine (HZ.out _ (Below.refl _ _)).mono ?_; rintro e w1 ⟨rfl, rfl⟩); clear HZ) | (go_at_call 24; refine (HZ'.out).mono ?_; rintro e w1 ⟨rfl, rfl⟩))
      go_wp2_with (first | ((with_reducible (show Calls _ _ #[.slice A n c] _ _)); (go_at_call 25; apply own_at hO; (repeat (first | (with_reducible exact hO) | (with_reducible apply Own.alloc) | (with_reducible apply Own.drew) | ((with_reducible apply Own.set_at); (focus (show _ ≤ _; omega))))); have hG := hF; clear hF; clear hO; intro hO; refine own_call_row hO (fun hB => HT.out _ hB) ?_; clear hO; intro v w1 hO; (try simp only [World.size_alloc1, World.size_drew, Nat.reduceAdd] at hO); (try simp only [upd, updI, List.map_cons, List.map_nil, eq_self, if_true, if_false, reduceIte, Nat.add_eq_left, Nat.left_eq_add, Nat.reduceEqDiff, List.set_cons_zero, List.set_cons_succ, hG] at hO); clear hG; have hF := hO; (try simp only [Own, Item.Holds, apartI, CellsAt, Nat.reduceAdd, Nat.zero_add, List.mem_cons, List.not_mem_nil, or_false, forall_eq_or_imp, forall_eq, ne_eq, false_imp_iff, implies_true, and_true] at hF))) | ((with_reducible (show Calls _ _ #[.slice A' m c'] _ _)); (go_at_call 25; apply own_at hO; (repeat (first | (with_reducible exact hO) | (with_reducible apply Own.alloc) | (with_reducible apply Own.drew) | ((with_reducible apply Own.set_at); (focus (show _ ≤ _; omega))))); have hG := hF; clear hF; clear hO; intro hO; refine own_call_row hO (fun hB => HT'.out _ hB) ?_; clear hO; intro v w1 hO; (try simp only [World.size_alloc1, World.size_drew, Nat.reduceAdd] at hO); (try simp only [upd, updI, List.map_cons, List.map_nil, eq_self, if_true, if_false, reduceIte, Nat.add_eq_left, Nat.left_eq_add, Nat.reduceEqDiff, List.set_cons_zero, List.set_cons_succ, hG] at hO); clear hG; have hF := hO; (try simp only [Own, Item.Holds, apartI, CellsAt, Nat.reduceAdd, Nat.zero_add, List.mem_cons, List.not_mem_nil, or_false, forall_eq_or_imp, forall_eq, ne_eq, false_imp_iff, implies_true, and_true] at hF))) | (go_at_call 21; apply own_at hO; (repeat (first | (with_reducible exact hO) | (with_reducible apply Own.alloc) | (with_reducible apply Own.drew) | ((with_reducible apply Own.set_at); (focus (show _ ≤ _; omega))))); have hG := hF; clear hF; clear hO; intro hO; refine own_callO hO (fun hW => HS.out _ _ _ hW.base (SlAt.of_row hW.2.1.1) (SlAt.of_row hW.1.1)) ?_; clear hO; intro w1 hO; (try simp only [World.size_alloc1, World.size_drew, Nat.reduceAdd] at hO); (try simp only [upd, updI, List.map_cons, List.map_nil, eq_self, if_true, if_false, reduceIte, Nat.add_eq_left, Nat.left_eq_add, Nat.reduceEqDiff, List.set_cons_zero, List.set_cons_succ, hG] at hO); clear hG; have hF := hO; (try simp only [Own, Item.Holds, apartI, CellsAt, Nat.reduceAdd, Nat.zero_add, List.mem_cons, List.not_mem_nil, or_false, forall_eq_or_imp, forall_eq, ne_eq, false_imp_iff, implies_true, and_true] at hF)) | (go_at_call 19; apply own_at hO; (repeat (first | (with_reducible exact hO) | (with_reducible apply Own.alloc) | (with_reducible apply Own.drew) | ((with_reducible apply Own.set_at); (focus (show _ ≤ _; omega))))); have hG := hF; clear hF; clear hO; intro hO; refine own_callO hO (fun hW => HI.out _ _ _ hW.base (SlAt.of_row hW.2.1.1) (SlAt.of_row hW.1.1)) ?_; clear hO; intro w1 hO; (try simp only [World.size_alloc1, World.size_drew, Nat.reduceAdd] at hO); (try simp only [upd, updI, List.map_cons, List.map_nil, eq_self, if_true, if_false, reduceIte, Nat.add_eq_left, Nat.left_eq_add, Nat.reduceEqDiff, List.set_cons_zero, List.set_cons_succ, hG] at hO); clear hG; have hF := hO; (try simp only [Own, Item.Holds, apartI, CellsAt, Nat.reduceAdd, Nat.zero_add, List.mem_cons, List.not_mem_nil, or_false, forall_eq_or_imp, forall_eq, ne_eq, false_imp_iff, implies_true, and_true] at hF)) | ((go_at_call 26; apply own_at hO; (repeat (first | (with_reducible exact hO) | (with_reducible apply Own.alloc) | (with_reducible apply Own.drew) | ((with_reducible apply Own.set_at); (focus (show _ ≤ _; omega))))); have hG := hF; clear hF; clear hO; intro hO; refine own_callO hO (fun hW => HE.out _ _ _ (SlAt.of_row hW.2.2.1.1) (SlAt.of_row hW.1.1)) ?_; clear hO; intro w1 hO; (try simp only [World.size_alloc1, World.size_drew, Nat.reduceAdd] at hO); (try simp only [upd, updI, List.map_cons, List.map_nil, eq_self, if_true, if_false, reduceIte, Nat.add_eq_left, Nat.left_eq_add, Nat.reduceEqDiff, List.set_cons_zero, List.set_cons_succ, hG] at hO); clear hG; have hF := hO; (try simp only [Own, Item.Holds, apartI, CellsAt, Nat.reduceAdd, Nat.zero_add, List.mem_cons, List.not_mem_nil, or_false, forall_eq_or_imp, forall_eq, ne_eq, false_imp_iff, implies_true, and_true] at hF)); clear HE) | (go_at_call 26; apply own_at hO; (repeat (first | (with_reducible exact hO) | (with_reducible apply Own.alloc) | (with_reducible apply Own.drew) | ((with_reducible apply Own.set_at); (focus (show _ ≤ _; omega))))); have hG := hF; clear hF; clear hO; intro hO; refine own_callO hO (fun hW => HE'.out _ _ _ (SlAt.of_row hW.2.2.1.1) (SlAt.of_row hW.1.1)) ?_; clear hO; intro w1 hO; (try simp only [World.size_alloc1, World.size_drew, Nat.reduceAdd] at hO); (try simp only [upd, updI, List.map_cons, List.map_nil, eq_self, if_true, if_false, reduceIte, Nat.add_eq_left, Nat.left_eq_add, Nat.reduceEqDiff, List.set_cons_zero, List.set_cons_succ, hG] at hO); clear hG; have hF := hO; (try simp only [Own, Item.Holds, apartI, CellsAt, Nat.reduceAdd, Nat.zero_add, List.mem_cons, List.not_mem_nil, or_false, forall_eq_or_imp, forall_eq, ne_eq, false_imp_iff, implies_true, and_true] at hF)))
      go_ret
      exact ⟨rfl, Own.base (by (repeat (first | (with_reducible exact hO) | (with_reducible apply Own.alloc) | (with_reducible apply Own.drew) | ((with_reducible apply Own.set_at); (focus (show _ ≤ _; omega))))))⟩
    · have HZ' := hid (szP_at n0 (by omega) (show (if 1048576 - (a.length : Int) < (b.length : Int) then -1 else 1048576 - (a.length : Int) - (b.length : Int)) = -1 from if_pos (by omega)) hY'.len w hY')
      obtain ⟨n, hn⟩ : ∃ n, a.length = n := ⟨_, rfl⟩
      obtain ⟨m, hm2⟩ : ∃ n, b.length = n := ⟨_, rfl⟩
      rw [hn] at HZ n0 n1 HZ'
      rw [hm2] at HZ'
      rw [hn, hm2]
      clear hY hY' hI hm hm' hn hm2 hl hl'
      go_enter Tryd.func8, Tryd.ntmps8
      go_wp2_with (first | ((go_at_call 24; refine (HZ.out _ (Below.refl _ _)).mono ?_; rintro e w1 ⟨rfl, rfl⟩); clear HZ) | (go_at_call 24; refine (HZ'.out).mono ?_; rintro e w1 ⟨rfl, rfl⟩))
      go_ret
      exact ⟨rfl, Below.refl _ _⟩
  · have HZ := hid (szP_is hY hm (szP_no (by omega)))
    clear hY hY' hI hm hm' hl
    go_enter Tryd.func8, Tryd.ntmps8
    go_wp2_with ((go_at_call 24; refine (HZ.out _ (Below.refl _ _)).mono ?_; rintro e w1 ⟨rfl, rfl⟩))
    go_ret
    exact ⟨rfl, Below.refl _ _⟩

theorem tnC_int14 (v : List (Int × Int)) : AllInt (tnC v) := by
  intro j u h
  have := List.mem_of_getElem? h
  unfold tnC at this
  obtain ⟨x, _, hx⟩ := List.mem_flatMap.1 this
  simp [ivC2] at hx
  rcases hx with rfl | rfl <;> exact ⟨_, rfl⟩
theorem lfZ_len (f : Int) (a b : List Pt) (h : a.length ≤ 1048576) : (lfZ f a b).length ≤ 2097152 := by
  have h1 := (lfZ_facts f a b).1
  unfold lfZ
  split
  · rename_i h2
    have := (lfC_iff.1 h2).2.1
    have := lfF_len f a b b.length
    omega
  · simp
theorem Own.nth {n : Nat} {B : World → Prop} {w : World} {L : List Item} (h : Own n B w L) (k : Nat) (x : Item) (hx : L[k]? = some x) : Own n B w (x :: L.eraseIdx k) := by
  refine h.perm ?_
  obtain ⟨h1, rfl⟩ := List.getElem?_eq_some_iff.1 hx
  rw [List.eraseIdx_eq_take_drop_succ]
  have e : L = L.take k ++ L[k] :: L.drop (k + 1) := by rw [← List.drop_eq_getElem_cons h1, List.take_append_drop]
  have h2 : (L.take k ++ L[k] :: L.drop (k + 1)).Perm (L[k] :: (L.take k ++ L.drop (k + 1))) := List.perm_middle
  exact (List.Perm.of_eq e).trans h2

set_option maxHeartbeats 8000000 in
theorem xLineFaults_of (f : Int) (va : Value) (a : List Pt) (vb : Value) (b : List Pt) (w : World) (hm : a.length ≤ maxLen) (hY : PtsAt w va a) (hm' : b.length ≤ maxLen) (hY' : PtsAt w vb b) (hI : CLf 17 w) :
    Calls Tryd.prog 7 #[.int .i64 f, va, vb] w fun e w' => e = .returned (.bool true) ∧ Below w.heap.size w w' := by
  have hO := Own.start w
  have hF := True.intro
  obtain ⟨A, c, rfl⟩ := hY.form
  obtain ⟨A', c', rfl⟩ := hY'.form
  by_cases hl : a.length ≤ 1048576
  · have HZ := hid (szP_is hY hm (szP_yes hl))
    have n0 : (0 : Int) ≤ 1048576 - (a.length : Int) := by omega
    have n1 : ¬ (1048576 - (a.length : Int) < 0) := by omega
    by_cases hl' : (b.length : Int) ≤ 1048576 - (a.length : Int)
    · have HZ' := hid (szP_at n0 (by omega) (show (if 1048576 - (a.length : Int) < (b.length : Int) then -1 else 1048576 - (a.length : Int) - (b.length : Int)) = 1048576 - (a.length : Int) - (b.length : Int) from if_neg (by omega)) hY'.len w hY')
      have HT := hid (fun W (hW : Below w.heap.size w W) => toPS_any _ a W (hY.below hW) hl)
      have HT' := hid (fun W (hW : Below w.heap.size w W) => toPS_any _ b W (hY'.below hW) (by omega))
      obtain ⟨us, hus⟩ : ∃ z, lfZ f a b = z := ⟨_, rfl⟩
      obtain ⟨k, hk⟩ : ∃ z, us.length = z := ⟨_, rfl⟩
      have hk9 : k ≤ 2097152 := by rw [← hk, ← hus]; exact lfZ_len f a b hl
      have m1 : ¬ (1048576 - (a.length : Int) - (b.length : Int) < 0) := by omega
      have m0 : (0 : Int) ≤ 1048576 - (a.length : Int) - (b.length : Int) := by omega
      obtain ⟨n, hn⟩ : ∃ n, a.length = n := ⟨_, rfl⟩
      obtain ⟨m, hm2⟩ : ∃ n, b.length = n := ⟨_, rfl⟩
      rw [hn] at HZ HT hl n0 n1 hl' HZ' m0 m1
      rw [hm2] at HT' hl' HZ' m0 m1
      have hb9 : m ≤ 1048576 := by omega
      rw [hn, hm2]
      have HS := hid ((lfS_C w).is hn hm2 hl hb9 hus hk)
      have HI := hid (hI.is hn hm2 hl hb9 hus hk)
      have hxl : (pcC a).length = n * 3 := by rw [pcC_len, hn]
      have hyl : (pcC b).length = m * 3 := by rw [pcC_len, hm2]
      obtain ⟨xa, hxa⟩ : ∃ x, pcC a = x := ⟨_, rfl⟩
      obtain ⟨xb, hxb⟩ : ∃ x, pcC b = x := ⟨_, rfl⟩
      have ia := pcC_int a
      have ib := pcC_int b
      have iu := tnC_int14 us
      obtain ⟨xu, hxu⟩ : ∃ x, tnC us = x := ⟨_, rfl⟩
      rw [hxa] at HT HS HI hxl ia
      rw [hxb] at HT' HS HI hyl ib
      rw [hxu] at HS HI iu
      have HE := hid (fun va vb W (h1 : SlAt W va n 3 xa) (h2 : SlAt W vb n 3 xa) => eqPS_same va vb n xa W h1 h2 ia)
      have HE' := hid (fun va vb W (h1 : SlAt W va m 3 xb) (h2 : SlAt W vb m 3 xb) => eqPS_same va vb m xb W h1 h2 ib)
      have HG := hid (fun va vb W (h1 : SlAt W va k 2 xu) (h2 : SlAt W vb k 2 xu) => eqFS_same va vb k xu W h1 h2 iu)
      have k0 : (0 : Int) ≤ 1 + (xa.length : Int) := by omega
      have k1 : (0 : Int) ≤ 1 + (xa.length : Int) + (xb.length : Int) := by omega
      have k2 : ¬ (1 + (xa.length : Int) + (xb.length : Int) < 0) := by omega
      have k3 : ¬ (1 + (xu.length : Int) < 0) := by omega
      clear hY hY' hI hm hm' hn hm2 hl hl' hus hk hxa hxb hxu ia ib iu
      go_enter Tryd.func7, Tryd.ntmps7
      go_wp2_with (first | ((go_at_call 24; refine (HZ.out _ (Below.refl _ _)).mono ?_; rintro e w1 ⟨rfl, rfl⟩); clear HZ) | (go_at_call 24; refine (HZ'.out).mono ?_; rintro e w1 ⟨rfl, rfl⟩))
      go_wp2_with (first | ((with_reducible (show Calls _ _ #[.slice A n c] _ _)); (go_at_call 25; apply own_at hO; (repeat (first | (with_reducible exact hO) | (with_reducible apply Own.alloc) | (with_reducible apply Own.drew) | ((with_reducible apply Own.set_at); (focus (show _ ≤ _; omega))))); have hG := hF; clear hF; clear hO; intro hO; refine own_call_row hO (fun hB => HT.out _ hB) ?_; clear hO; intro v w1 hO; (try simp only [World.size_alloc1, World.size_drew, Nat.reduceAdd] at hO); (try simp only [upd, updI, List.map_cons, List.map_nil, eq_self, if_true, if_false, reduceIte, Nat.add_eq_left, Nat.left_eq_add, Nat.reduceEqDiff, List.set_cons_zero, List.set_cons_succ, hG] at hO); clear hG; have hF := hO; (try simp only [Own, Item.Holds, apartI, CellsAt, Nat.reduceAdd, Nat.zero_add, List.mem_cons, List.not_mem_nil, or_false, forall_eq_or_imp, forall_eq, ne_eq, false_imp_iff, implies_true, and_true] at hF))) | ((with_reducible (show Calls _ _ #[.slice A' m c'] _ _)); (go_at_call 25; apply own_at hO; (repeat (first | (with_reducible exact hO) | (with_reducible apply Own.alloc) | (with_reducible apply Own.drew) | ((with_reducible apply Own.set_at); (focus (show _ ≤ _; omega))))); have hG := hF; clear hF; clear hO; intro hO; refine own_call_row hO (fun hB => HT'.out _ hB) ?_; clear hO; intro v w1 hO; (try simp only [World.size_alloc1, World.size_drew, Nat.reduceAdd] at hO); (try simp only [upd, updI, List.map_cons, List.map_nil, eq_self, if_true, if_false, reduceIte, Nat.add_eq_left, Nat.left_eq_add, Nat.reduceEqDiff, List.set_cons_zero, List.set_cons_succ, hG] at hO); clear hG; have hF := hO; (try simp only [Own, Item.Holds, apartI, CellsAt, Nat.reduceAdd, Nat.zero_add, List.mem_cons, List.not_mem_nil, or_false, forall_eq_or_imp, forall_eq, ne_eq, false_imp_iff, implies_true, and_true] at hF))) | (go_at_call 18; apply own_at hO; (repeat (first | (with_reducible exact hO) | (with_reducible apply Own.alloc) | (with_reducible apply Own.drew) | ((with_reducible apply Own.set_at); (focus (show _ ≤ _; omega))))); have hG := hF; clear hF; clear hO; intro hO; refine own_call_row hO (fun hB => HS.out _ _ _ hB (SlAt.of_row hO.2.1.1) (SlAt.of_row hO.1.1)) ?_; clear hO; intro v w1 hO; (try simp only [World.size_alloc1, World.size_drew, Nat.reduceAdd] at hO); (try simp only [upd, updI, List.map_cons, List.map_nil, eq_self, if_true, if_false, reduceIte, Nat.add_eq_left, Nat.left_eq_add, Nat.reduceEqDiff, List.set_cons_zero, List.set_cons_succ, hG] at hO); clear hG; have hF := hO; (try simp only [Own, Item.Holds, apartI, CellsAt, Nat.reduceAdd, Nat.zero_add, List.mem_cons, List.not_mem_nil, or_false, forall_eq_or_imp, forall_eq, ne_eq, false_imp_iff, implies_true, and_true] at hF)) | (go_at_call 17; apply own_at hO; (repeat (first | (with_reducible exact hO) | (with_reducible apply Own.alloc) | (with_reducible apply Own.drew) | ((with_reducible apply Own.set_at); (focus (show _ ≤ _; omega))))); have hG := hF; clear hF; clear hO; intro hO; refine own_call_row hO (fun hB => HI.out _ _ _ hB (SlAt.of_row hO.2.1.1) (SlAt.of_row hO.1.1)) ?_; clear hO; intro v w1 hO; (try simp only [World.size_alloc1, World.size_drew, Nat.reduceAdd] at hO); (try simp only [upd, updI, List.map_cons, List.map_nil, eq_self, if_true, if_false, reduceIte, Nat.add_eq_left, Nat.left_eq_add, Nat.reduceEqDiff, List.set_cons_zero, List.set_cons_succ, hG] at hO); clear hG; have hF := hO; (try simp only [Own, Item.Holds, apartI, CellsAt, Nat.reduceAdd, Nat.zero_add, List.mem_cons, List.not_mem_nil, or_false, forall_eq_or_imp, forall_eq, ne_eq, false_imp_iff, implies_true, and_true] at hF)) | (go_at_call 27; apply own_at hO; (repeat (first | (with_reducible exact hO) | (with_reducible apply Own.alloc) | (with_reducible apply Own.drew) | ((with_reducible apply Own.set_at); (focus (show _ ≤ _; omega))))); have hG := hF; clear hF; clear hO; intro hO; refine own_callO hO (fun hW => HG.out _ _ _ (SlAt.of_row hW.1.1) (SlAt.of_row hW.2.2.2.1.1)) ?_; clear hO; intro w1 hO; (try simp only [World.size_alloc1, World.size_drew, Nat.reduceAdd] at hO); (try simp only [upd, updI, List.map_cons, List.map_nil, eq_self, if_true, if_false, reduceIte, Nat.add_eq_left, Nat.left_eq_add, Nat.reduceEqDiff, List.set_cons_zero, List.set_cons_succ, hG] at hO); clear hG; have hF := hO; (try simp only [Own, Item.Holds, apartI, CellsAt, Nat.reduceAdd, Nat.zero_add, List.mem_cons, List.not_mem_nil, or_false, forall_eq_or_imp, forall_eq, ne_eq, false_imp_iff, implies_true, and_true] at hF)) | ((go_at_call 26; apply own_at hO; (repeat (first | (with_reducible exact hO) | (with_reducible apply Own.alloc) | (with_reducible apply Own.drew) | ((with_reducible apply Own.set_at); (focus (show _ ≤ _; omega))))); have hG := hF; clear hF; clear hO; intro hO; refine own_callO hO (fun hW => HE.out _ _ _ (SlAt.of_row hW.2.2.2.1.1) (SlAt.of_row hW.1.1)) ?_; clear hO; intro w1 hO; (try simp only [World.size_alloc1, World.size_drew, Nat.reduceAdd] at hO); (try simp only [upd, updI, List.map_cons, List.map_nil, eq_self, if_true, if_false, reduceIte, Nat.add_eq_left, Nat.left_eq_add, Nat.reduceEqDiff, List.set_cons_zero, List.set_cons_succ, hG] at hO); clear hG; have hF := hO; (try simp only [Own, Item.Holds, apartI, CellsAt, Nat.reduceAdd, Nat.zero_add, List.mem_cons, List.not_mem_nil, or_false, forall_eq_or_imp, forall_eq, ne_eq, false_imp_iff, implies_true, and_true] at hF)); clear HE) | ((go_at_call 26; apply own_at hO; (repeat (first | (with_reducible exact hO) | (with_reducible apply Own.alloc) | (with_reducible apply Own.drew) | ((with_reducible apply Own.set_at); (focus (show _ ≤ _; omega))))); have hG := hF; clear hF; clear hO; intro hO; refine own_callO hO (fun hW => HE'.out _ _ _ (SlAt.of_row hW.2.2.2.1.1) (SlAt.of_row hW.1.1)) ?_; clear hO; intro w1 hO; (try simp only [World.size_alloc1, World.size_drew, Nat.reduceAdd] at hO); (try simp only [upd, updI, List.map_cons, List.map_nil, eq_self, if_true, if_false, reduceIte, Nat.add_eq_left, Nat.left_eq_add, Nat.reduceEqDiff, List.set_cons_zero, List.set_cons_succ, hG] at hO); clear hG; have hF := hO; (try simp only [Own, Item.Holds, apartI, CellsAt, Nat.reduceAdd, Nat.zero_add, List.mem_cons, List.not_mem_nil, or_false, forall_eq_or_imp, forall_eq, ne_eq, false_imp_iff, implies_true, and_true] at hF)); clear HE'; replace hO := hO.nth 4 _ rfl; simp only [List.eraseIdx_cons_succ, List.eraseIdx_cons_zero] at hO; clear hF; have hF := hO; (try simp only [Own, Item.Holds, apartI, CellsAt, Nat.reduceAdd, Nat.zero_add, List.mem_cons, List.not_mem_nil, or_false, forall_eq_or_imp, forall_eq, ne_eq, false_imp_iff, implies_true, and_true] at hF)) | ((go_at_call 28; apply own_at hO; (repeat (first | (with_reducible exact hO) | (with_reducible apply Own.alloc) | (with_reducible apply Own.drew) | ((with_reducible apply Own.set_at); (focus (show _ ≤ _; omega))))); have hG := hF; clear hF; clear hO; intro hO; refine own_mark hO (fun hr => markPS_any _ _ _ _ _ _ _ hr (by omega) (by omega) (by omega)) ?_; clear hO; intro w1 hO; (try simp only [World.size_alloc1, World.size_drew, Nat.reduceAdd] at hO); (try simp only [upd, updI, List.map_cons, List.map_nil, eq_self, if_true, if_false, reduceIte, Nat.add_eq_left, Nat.left_eq_add, Nat.reduceEqDiff, List.set_cons_zero, List.set_cons_succ, hG] at hO); clear hG; have hF := hO; (try simp only [Own, Item.Holds, apartI, CellsAt, Nat.reduceAdd, Nat.zero_add, List.mem_cons, List.not_mem_nil, or_false, forall_eq_or_imp, forall_eq, ne_eq, false_imp_iff, implies_true, and_true] at hF)); replace hO := hO.nth 4 _ rfl; simp only [List.eraseIdx_cons_succ, List.eraseIdx_cons_zero] at hO; clear hF; have hF := hO; (try simp only [Own, Item.Holds, apartI, CellsAt, Nat.reduceAdd, Nat.zero_add, List.mem_cons, List.not_mem_nil, or_false, forall_eq_or_imp, forall_eq, ne_eq, false_imp_iff, implies_true, and_true] at hF)) | (go_at_call 27; apply own_at hO; (repeat (first | (with_reducible exact hO) | (with_reducible apply Own.alloc) | (with_reducible apply Own.drew) | ((with_reducible apply Own.set_at); (focus (show _ ≤ _; omega))))); have hG := hF; clear hF; clear hO; intro hO; refine own_callO hO (fun hW => HG.out _ _ _ (SlAt.of_row hW.1.1) (SlAt.of_row hW.2.2.2.2.2.1.1)) ?_; clear hO; intro w1 hO; (try simp only [World.size_alloc1, World.size_drew, Nat.reduceAdd] at hO); (try simp only [upd, updI, List.map_cons, List.map_nil, eq_self, if_true, if_false, reduceIte, Nat.add_eq_left, Nat.left_eq_add, Nat.reduceEqDiff, List.set_cons_zero, List.set_cons_succ, hG] at hO); clear hG; have hF := hO; (try simp only [Own, Item.Holds, apartI, CellsAt, Nat.reduceAdd, Nat.zero_add, List.mem_cons, List.not_mem_nil, or_false, forall_eq_or_imp, forall_eq, ne_eq, false_imp_iff, implies_true, and_true] at hF)) | (go_at_call 29; apply own_at hO; (repeat (first | (with_reducible exact hO) | (with_reducible apply Own.alloc) | (with_reducible apply Own.drew) | ((with_reducible apply Own.set_at); (focus (show _ ≤ _; omega))))); have hG := hF; clear hF; clear hO; intro hO; clear hG; refine own_markFS hO (fun hr => markFS_any _ _ _ _ _ _ _ hr (by omega) (by omega) (by omega)) ?_; clear hO; intro w1 hO; have hF := hO; (try simp only [Own, Item.Holds, apartI, CellsAt, Nat.reduceAdd, Nat.zero_add, List.mem_cons, List.not_mem_nil, or_false, forall_eq_or_imp, forall_eq, ne_eq, false_imp_iff, implies_true, and_true] at hF)) | (go_at_call 30; refine (heldFS_mk _ _ _ _ _ (SlAt.of_row hO.1.1) (by omega) (by omega) (by omega)).mono ?_; rintro e w1 ⟨rfl, rfl⟩) | (go_at_call 27; apply own_at hO; (repeat (first | (with_reducible exact hO) | (with_reducible apply Own.alloc) | (with_reducible apply Own.drew) | ((with_reducible apply Own.set_at); (focus (show _ ≤ _; omega))))); have hG := hF; clear hF; clear hO; intro hO; refine own_callO hO (fun hW => HG.out _ _ _ (SlAt.of_row hW.1.1) (SlAt.of_row hW.2.2.2.2.2.2.2.2.1.1)) ?_; clear hO; intro w1 hO; (try simp only [World.size_alloc1, World.size_drew, Nat.reduceAdd] at hO); (try simp only [upd, updI, List.map_cons, List.map_nil, eq_self, if_true, if_false, reduceIte, Nat.add_eq_left, Nat.left_eq_add, Nat.reduceEqDiff, List.set_cons_zero, List.set_cons_succ, hG] at hO); clear hG; have hF := hO; (try simp only [Own, Item.Holds, apartI, CellsAt, Nat.reduceAdd, Nat.zero_add, List.mem_cons, List.not_mem_nil, or_false, forall_eq_or_imp, forall_eq, ne_eq, false_imp_iff, implies_true, and_true] at hF)) | (go_at_call 30; refine (heldFS_mk _ _ _ _ _ (SlAt.of_row hO.2.2.2.1.1) (by omega) (by omega) (by omega)).mono ?_; rintro e w1 ⟨rfl, rfl⟩))
      go_ret
      exact ⟨rfl, Own.base (by (repeat (first | (with_reducible exact hO) | (with_reducible apply Own.alloc) | (with_reducible apply Own.drew) | ((with_reducible apply Own.set_at); (focus (show _ ≤ _; omega))))))⟩
    · have HZ' := hid (szP_at n0 (by omega) (show (if 1048576 - (a.length : Int) < (b.length : Int) then -1 else 1048576 - (a.length : Int) - (b.length : Int)) = -1 from if_pos (by omega)) hY'.len w hY')
      obtain ⟨n, hn⟩ : ∃ n, a.length = n := ⟨_, rfl⟩
      obtain ⟨m, hm2⟩ : ∃ n, b.length = n := ⟨_, rfl⟩
      rw [hn] at HZ n0 n1 HZ'
      rw [hm2] at HZ'
      rw [hn, hm2]
      clear hY hY' hI hm hm' hn hm2 hl hl'
      go_enter Tryd.func7, Tryd.ntmps7
      go_wp2_with (first | ((go_at_call 24; refine (HZ.out _ (Below.refl _ _)).mono ?_; rintro e w1 ⟨rfl, rfl⟩); clear HZ) | (go_at_call 24; refine (HZ'.out).mono ?_; rintro e w1 ⟨rfl, rfl⟩))
      go_ret
      exact ⟨rfl, Below.refl _ _⟩
  · have HZ := hid (szP_is hY hm (szP_no (by omega)))
    clear hY hY' hI hm hm' hl
    go_enter Tryd.func7, Tryd.ntmps7
    go_wp2_with ((go_at_call 24; refine (HZ.out _ (Below.refl _ _)).mono ?_; rintro e w1 ⟨rfl, rfl⟩))
    go_ret
    exact ⟨rfl, Below.refl _ _⟩
end Go.Proofs.YtfdglkiehkilnaaDoor
