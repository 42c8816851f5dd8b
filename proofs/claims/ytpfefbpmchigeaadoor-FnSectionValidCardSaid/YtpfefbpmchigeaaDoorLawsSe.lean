/- The walks of the laws of chapter 7's promises: lists of sections; the bars on paper. -/
import Derived.Test.YtpfefbpmchigeaaDoorDrawsSecs
import Derived.Test.YtpfefbpmchigeaaDoorWalks7K
namespace Go.Proofs.YtpfefbpmchigeaaDoor
set_option linter.unusedSimpArgs false
set_option linter.unusedVariables false
open Go.RowKit

theorem bytes_form {w : World} {v : Value} {n : Nat} (h : BytesB w w.heap.size v n) : ∃ a c, v = .slice a n c := by
  rcases h with ⟨rfl, a, c, rfl⟩ | ⟨_, b, off, cap, _, _, rfl, _⟩
  · exact ⟨_, _, rfl⟩
  · exact ⟨_, _, rfl⟩
theorem se_few {l : List Sec} (h : ∀ s ∈ l, seOk s) : ∀ s ∈ l, s.e.length ≤ 1048576 := fun s hs => by have := (h s hs).2.2.1; omega
theorem se_app {a b : List Sec} (ha : ∀ s ∈ a, s.e.length ≤ 1048576) (hb : ∀ s ∈ b, s.e.length ≤ 1048576) : ∀ s ∈ a ++ b, s.e.length ≤ 1048576 := fun s hs => by
  rcases List.mem_append.1 hs with h | h
  · exact ha s h
  · exact hb s h
def sec00 : Sec := ⟨0, 0, []⟩
theorem sec00_no (l : List Sec) : ssB (l ++ [sec00]) = false := by
  cases h : ssB (l ++ [sec00]) with
  | false => rfl
  | true =>
    have := (ssB_iff.1 h).1 sec00 (by simp)
    simp [seB, sec00, inB] at this
theorem sec00_few : ∀ s ∈ [sec00], s.e.length ≤ 1048576 := fun s hs => by simp at hs; subst hs; simp [sec00]

theorem sec00_at {W : World} : ∀ (k : Nat) (s : Sec) (ev : Value), [sec00][k]? = some s → [Value.slice none 0 0][k]? = some ev → IntsAt W ev s.e
  | 0, s, ev, h1, h2 => by
    simp at h1 h2
    subst h1 h2
    exact Or.inl ⟨rfl, _, _, rfl⟩
  | k + 1, s, ev, h1, _ => by simp at h1
/-- one that is never played stands behind them. -/
theorem more_no {W w1 : World} {v : Value} {l : List Sec} {evs : List Value} {m : Nat} (hm : l.length = m) (m9 : m ≤ 9) (q1 : evs.length = l.length) (q3 : ∀ (k : Nat) (s : Sec) (ev : Value), l[k]? = some s → evs[k]? = some ev → IntsAt w1 ev s.e) (hle : ∀ s ∈ l, s.e.length ≤ 1048576) (hW : Below w1.heap.size w1 W) (h : SlAt W v (m + 1) 3 (scC l evs ++ [.int .i64 0, .int .i64 0, .slice none 0 0])) :
    Calls Tryd.prog 14 #[v] W fun r w' => r = .returned (.bool false) ∧ Below W.heap.size W w' := by
  have := ssI_any v (l ++ [sec00]) W (SecsR.join (ea := evs) (eb := [.slice none 0 0]) q1 rfl (by rw [hm]; exact h) (fun k s ev a b => (q3 k s ev a b).below hW) sec00_at).at (by rw [List.length_append, hm]; simp; omega) (se_app hle sec00_few)
  rwa [sec00_no l] at this

set_option maxRecDepth 20000 in
set_option maxHeartbeats 1000000 in
theorem fnSectionsValid_any (v : Value) (n : Nat) (w : World) (hn : n ≤ maxLen) (h : BytesB w w.heap.size v n) (ht : TabH w) :
    Calls Tryd.prog 4 #[v] w fun e w' => e = .returned (.bool true) ∧ Below w.heap.size w w' := by
  obtain ⟨a0, c0, rfl⟩ := bytes_form h
  have hn' : (n : Int) ≤ 9223372036854775807 := by unfold maxLen at hn; omega
  obtain ⟨i0, hi, hz0, hz1, hz2⟩ := info_parts infoS9
  by_cases hl : n ≤ 1048576
  · have hl' : (n : Int) ≤ 1048576 := by omega
    go_enter Tryd.func4, Tryd.ntmps4
    go_wp2_with (go_at_call 13; refine (DrawSectionsValid_any _ n _ hn h).mono ?_; rintro e w1 ⟨u, l, hs, hl9, rfl, hS, hb0⟩; clear hn h)
    have HB0 := hid hb0
    have HT := hid (ht.below hb0)
    have hle := se_few hs
    have hn9 : l.length ≤ 1048576 := by omega
    obtain ⟨evs, q1, q2, q3⟩ := id hS
    obtain ⟨o, ho⟩ : ∃ o, ssB l = o := ⟨_, rfl⟩
    have HN3 := hid (fun (m : Nat) (hm : l.length = m) (m9 : m ≤ 9) (W : World) (v : Value) (hW : Below w1.heap.size w1 W) h => more_no (v := v) hm m9 q1 q3 hle hW h)
    have HI := hid (fun W (hW : Below w1.heap.size w1 W) => ssI_is hS.at hn9 hle ho W hW)
    have HS := hid (fun W (hW : Below w1.heap.size w1 W) => ssS_is hS.at hn9 hle ho W hW)
    obtain ⟨A, c, rfl, hA⟩ := hS.at.open
    have HK := hid (fun W (hW : Below w1.heap.size w1 W) => (hS.below hW).take (l.length / 2) (by omega))
    have HOO := hid ho
    have HX := hid (scC_one q1 q3)
    have HQ := hid (And.intro q1 q3)
    have HQ2 := hid (fun W (hW : Below w1.heap.size w1 W) => q2.below hW)
    have HLE := hid hle
    have HLL := hid (ssB_take (l := l) (k := l.length / 2))
    obtain ⟨m, hm⟩ : ∃ m, l.length = m := ⟨_, rfl⟩
    have HM := hid hm
    have m9 : m ≤ 9 := by omega
    rw [hm] at HI HS HK HQ2 HLL
    rw [hm]
    have hO := Own.start w1
    have hF := True.intro
    have d1 : (m : Int).tdiv 2 = ((m / 2 : Nat) : Int) := by rw [Int.tdiv_eq_ediv_of_nonneg (by omega)]; omega
    have d2 : m / 2 ≤ m := by omega
    obtain ⟨k, hk⟩ : ∃ k, m / 2 = k := ⟨_, rfl⟩
    rw [hk] at d1 d2 HK HLL
    have hmc : 0 < m → m ≤ c ∧ c ≤ 9223372036854775807 := fun h0 => by
      obtain ⟨b, off, _, h1, h2, _⟩ := hA (by omega)
      omega
    clear hb0 hs hS hle hn9 q1 q2 q3 hA hk hl9 hm
    cases o
    · go_wp2_with (go_at_call 14; apply own_at hO; (repeat (first | (with_reducible exact hO) | (with_reducible apply Own.alloc) | (with_reducible apply Own.drew) | ((with_reducible apply Own.set_at); (focus (show _ ≤ _; omega))))); have hG := hF; clear hF; clear hO; intro hO; refine own_call hO (fun hB => HI.out _ hB) ?_; clear hO; intro w1 hO; (try simp only [World.size_alloc1, World.size_drew, Nat.reduceAdd] at hO); (try simp only [upd, updI, List.map_cons, List.map_nil, eq_self, if_true, if_false, reduceIte, Nat.add_eq_left, Nat.left_eq_add, Nat.reduceEqDiff, List.set_cons_zero, List.set_cons_succ, hG] at hO); clear hG; have hF := hO; (try simp only [Own, Item.Holds, apartI, CellsAt, Nat.reduceAdd, Nat.zero_add, List.mem_cons, List.not_mem_nil, or_false, forall_eq_or_imp, forall_eq, ne_eq, false_imp_iff, implies_true, and_true] at hF))
      go_wp2_with (first | (go_at_call 15; apply own_at hO; (repeat (first | (with_reducible exact hO) | (with_reducible apply Own.alloc) | (with_reducible apply Own.drew) | ((with_reducible apply Own.set_at); (focus (show _ ≤ _; omega))))); have hG := hF; clear hF; clear hO; intro hO; refine own_call hO (fun hB => HS.out _ hB) ?_; clear hO; intro w1 hO; (try simp only [World.size_alloc1, World.size_drew, Nat.reduceAdd] at hO); (try simp only [upd, updI, List.map_cons, List.map_nil, eq_self, if_true, if_false, reduceIte, Nat.add_eq_left, Nat.left_eq_add, Nat.reduceEqDiff, List.set_cons_zero, List.set_cons_succ, hG] at hO); clear hG; have hF := hO; (try simp only [Own, Item.Holds, apartI, CellsAt, Nat.reduceAdd, Nat.zero_add, List.mem_cons, List.not_mem_nil, or_false, forall_eq_or_imp, forall_eq, ne_eq, false_imp_iff, implies_true, and_true] at hF)) | (at_builtin; have hO2 := hO.allocRow (e := 25) (cur := #[]) (k := 0) (cap := 0) 3 (by omega) (by unfold maxLen; omega) rfl; clear hO hF; refine wpList_wanted (by rfl) (wp_append_slice _ _ 30 rfl 25 i0 (.agg #[.int .i64 0, .int .i64 0, .slice none 0 0]) 3 40 Tryd.underlying30 hi hz0 hz1 hz2 rfl (by decide) rfl rfl hO2 (HQ2.out _ hO2.base) HX.out (by unfold maxLen; omega) (by omega) ?_); clear hO2 HQ2; intro v' w3 hO; simp only [Nat.zero_mul, List.take_nil, List.nil_append, Nat.zero_add] at hO; obtain ⟨A3, c3, hv3⟩ := (SlAt.of_row hO.1.1).form; subst hv3; have hF := True.intro) | (at_builtin; have hO2 := hO.alloc (t := 25) (vs := [.int .i64 0, .int .i64 0, .slice none 0 0]); clear hO hF; refine wpList_wanted (by rfl) (wp_append_item _ _ 30 rfl 25 i0 (.agg #[.int .i64 0, .int .i64 0, .slice none 0 0]) 3 40 Tryd.underlying30 hi hz0 hz1 hz2 rfl (by decide) rfl rfl hO2 rfl one3s (by unfold maxLen; omega) (by omega) ?_); clear hO2; intro v' w3 hO; have hF := True.intro))
      go_wp2_with (go_at_call 14; apply own_at hO; (repeat (first | (with_reducible exact hO) | (with_reducible apply Own.alloc) | (with_reducible apply Own.drew) | ((with_reducible apply Own.set_at); (focus (show _ ≤ _; omega))))); have hG := hF; clear hF; clear hO; intro hO; refine own_call hO (fun hB => HN3.out m HM.out m9 _ _ hB (SlAt.of_row hO.1.1)) ?_; clear hO; intro w1 hO; (try simp only [World.size_alloc1, World.size_drew, Nat.reduceAdd] at hO); (try simp only [upd, updI, List.map_cons, List.map_nil, eq_self, if_true, if_false, reduceIte, Nat.add_eq_left, Nat.left_eq_add, Nat.reduceEqDiff, List.set_cons_zero, List.set_cons_succ, hG] at hO); clear hG; have hF := hO; (try simp only [Own, Item.Holds, apartI, CellsAt, Nat.reduceAdd, Nat.zero_add, List.mem_cons, List.not_mem_nil, or_false, forall_eq_or_imp, forall_eq, ne_eq, false_imp_iff, implies_true, and_true] at hF))
      go_wp2_with (go_at_call 12; apply own_at hO; (repeat (first | (with_reducible exact hO) | (with_reducible apply Own.alloc) | (with_reducible apply Own.drew) | ((with_reducible apply Own.set_at); (focus (show _ ≤ _; omega))))); have hG := hF; clear hF; clear hO; intro hO; refine own_call hO (fun hB => alive_any _ (HT.out.below hB)) ?_; clear hO; intro w1 hO; (try simp only [World.size_alloc1, World.size_drew, Nat.reduceAdd] at hO); (try simp only [upd, updI, List.map_cons, List.map_nil, eq_self, if_true, if_false, reduceIte, Nat.add_eq_left, Nat.left_eq_add, Nat.reduceEqDiff, List.set_cons_zero, List.set_cons_succ, hG] at hO); clear hG; have hF := hO; (try simp only [Own, Item.Holds, apartI, CellsAt, Nat.reduceAdd, Nat.zero_add, List.mem_cons, List.not_mem_nil, or_false, forall_eq_or_imp, forall_eq, ne_eq, false_imp_iff, implies_true, and_true] at hF))
      go_ret
      exact ⟨rfl, btr HB0.out (Own.base (by (repeat (first | (with_reducible exact hO) | (with_reducible apply Own.alloc) | (with_reducible apply Own.drew) | ((with_reducible apply Own.set_at); (focus (show _ ≤ _; omega)))))))⟩
    · have HTK := hid (fun W (hW : Below w1.heap.size w1 W) => ssI_is (HK.out W hW) (by rw [List.length_take]; omega) (fun s hs => HLE.out s (List.mem_of_mem_take hs)) (HLL.out HOO.out) W (Below.refl _ _))
      clear HLL
      go_wp2_with (go_at_call 14; apply own_at hO; (repeat (first | (with_reducible exact hO) | (with_reducible apply Own.alloc) | (with_reducible apply Own.drew) | ((with_reducible apply Own.set_at); (focus (show _ ≤ _; omega))))); have hG := hF; clear hF; clear hO; intro hO; refine own_call hO (fun hB => HI.out _ hB) ?_; clear hO; intro w1 hO; (try simp only [World.size_alloc1, World.size_drew, Nat.reduceAdd] at hO); (try simp only [upd, updI, List.map_cons, List.map_nil, eq_self, if_true, if_false, reduceIte, Nat.add_eq_left, Nat.left_eq_add, Nat.reduceEqDiff, List.set_cons_zero, List.set_cons_succ, hG] at hO); clear hG; have hF := hO; (try simp only [Own, Item.Holds, apartI, CellsAt, Nat.reduceAdd, Nat.zero_add, List.mem_cons, List.not_mem_nil, or_false, forall_eq_or_imp, forall_eq, ne_eq, false_imp_iff, implies_true, and_true] at hF))
      go_wp2_with (go_at_call 15; apply own_at hO; (repeat (first | (with_reducible exact hO) | (with_reducible apply Own.alloc) | (with_reducible apply Own.drew) | ((with_reducible apply Own.set_at); (focus (show _ ≤ _; omega))))); have hG := hF; clear hF; clear hO; intro hO; refine own_call hO (fun hB => HS.out _ hB) ?_; clear hO; intro w1 hO; (try simp only [World.size_alloc1, World.size_drew, Nat.reduceAdd] at hO); (try simp only [upd, updI, List.map_cons, List.map_nil, eq_self, if_true, if_false, reduceIte, Nat.add_eq_left, Nat.left_eq_add, Nat.reduceEqDiff, List.set_cons_zero, List.set_cons_succ, hG] at hO); clear hG; have hF := hO; (try simp only [Own, Item.Holds, apartI, CellsAt, Nat.reduceAdd, Nat.zero_add, List.mem_cons, List.not_mem_nil, or_false, forall_eq_or_imp, forall_eq, ne_eq, false_imp_iff, implies_true, and_true] at hF))
      go_wp2_with (first | ((go_at_call 14; apply own_at hO; (repeat (first | (with_reducible exact hO) | (with_reducible apply Own.alloc) | (with_reducible apply Own.drew) | ((with_reducible apply Own.set_at); (focus (show _ ≤ _; omega))))); have hG := hF; clear hF; clear hO; intro hO; refine own_call hO (fun hB => HTK.out _ hB) ?_; clear hO; intro w1 hO; (try simp only [World.size_alloc1, World.size_drew, Nat.reduceAdd] at hO); (try simp only [upd, updI, List.map_cons, List.map_nil, eq_self, if_true, if_false, reduceIte, Nat.add_eq_left, Nat.left_eq_add, Nat.reduceEqDiff, List.set_cons_zero, List.set_cons_succ, hG] at hO); clear hG; have hF := hO; (try simp only [Own, Item.Holds, apartI, CellsAt, Nat.reduceAdd, Nat.zero_add, List.mem_cons, List.not_mem_nil, or_false, forall_eq_or_imp, forall_eq, ne_eq, false_imp_iff, implies_true, and_true] at hF)); clear HTK) | (at_builtin; have hO2 := hO.allocRow (e := 25) (cur := #[]) (k := 0) (cap := 0) 3 (by omega) (by unfold maxLen; omega) rfl; clear hO hF; refine wpList_wanted (by rfl) (wp_append_slice _ _ 30 rfl 25 i0 (.agg #[.int .i64 0, .int .i64 0, .slice none 0 0]) 3 40 Tryd.underlying30 hi hz0 hz1 hz2 rfl (by decide) rfl rfl hO2 (HQ2.out _ hO2.base) HX.out (by unfold maxLen; omega) (by omega) ?_); clear hO2 HQ2; intro v' w3 hO; simp only [Nat.zero_mul, List.take_nil, List.nil_append, Nat.zero_add] at hO; obtain ⟨A3, c3, hv3⟩ := (SlAt.of_row hO.1.1).form; subst hv3; have hF := True.intro) | (at_builtin; have hO2 := hO.alloc (t := 25) (vs := [.int .i64 0, .int .i64 0, .slice none 0 0]); clear hO hF; refine wpList_wanted (by rfl) (wp_append_item _ _ 30 rfl 25 i0 (.agg #[.int .i64 0, .int .i64 0, .slice none 0 0]) 3 40 Tryd.underlying30 hi hz0 hz1 hz2 rfl (by decide) rfl rfl hO2 rfl one3s (by unfold maxLen; omega) (by omega) ?_); clear hO2; intro v' w3 hO; have hF := True.intro))
      go_wp2_with (go_at_call 14; apply own_at hO; (repeat (first | (with_reducible exact hO) | (with_reducible apply Own.alloc) | (with_reducible apply Own.drew) | ((with_reducible apply Own.set_at); (focus (show _ ≤ _; omega))))); have hG := hF; clear hF; clear hO; intro hO; refine own_call hO (fun hB => HN3.out m HM.out m9 _ _ hB (SlAt.of_row hO.1.1)) ?_; clear hO; intro w1 hO; (try simp only [World.size_alloc1, World.size_drew, Nat.reduceAdd] at hO); (try simp only [upd, updI, List.map_cons, List.map_nil, eq_self, if_true, if_false, reduceIte, Nat.add_eq_left, Nat.left_eq_add, Nat.reduceEqDiff, List.set_cons_zero, List.set_cons_succ, hG] at hO); clear hG; have hF := hO; (try simp only [Own, Item.Holds, apartI, CellsAt, Nat.reduceAdd, Nat.zero_add, List.mem_cons, List.not_mem_nil, or_false, forall_eq_or_imp, forall_eq, ne_eq, false_imp_iff, implies_true, and_true] at hF))
      go_wp2_with (go_at_call 12; apply own_at hO; (repeat (first | (with_reducible exact hO) | (with_reducible apply Own.alloc) | (with_reducible apply Own.drew) | ((with_reducible apply Own.set_at); (focus (show _ ≤ _; omega))))); have hG := hF; clear hF; clear hO; intro hO; refine own_call hO (fun hB => alive_any _ (HT.out.below hB)) ?_; clear hO; intro w1 hO; (try simp only [World.size_alloc1, World.size_drew, Nat.reduceAdd] at hO); (try simp only [upd, updI, List.map_cons, List.map_nil, eq_self, if_true, if_false, reduceIte, Nat.add_eq_left, Nat.left_eq_add, Nat.reduceEqDiff, List.set_cons_zero, List.set_cons_succ, hG] at hO); clear hG; have hF := hO; (try simp only [Own, Item.Holds, apartI, CellsAt, Nat.reduceAdd, Nat.zero_add, List.mem_cons, List.not_mem_nil, or_false, forall_eq_or_imp, forall_eq, ne_eq, false_imp_iff, implies_true, and_true] at hF))
      go_ret
      exact ⟨rfl, btr HB0.out (Own.base (by (repeat (first | (with_reducible exact hO) | (with_reducible apply Own.alloc) | (with_reducible apply Own.drew) | ((with_reducible apply Own.set_at); (focus (show _ ≤ _; omega)))))))⟩
  · have hl' : 1048576 < (n : Int) := by omega
    go_enter Tryd.func4, Tryd.ntmps4
    go_wp2
    go_ret
    exact ⟨rfl, Below.refl _ _⟩
end Go.Proofs.YtpfefbpmchigeaaDoor
