/- Chapter 7 in the program: sections that are valid; the bars on paper. -/
import Derived.Test.YtpfefbpmchigeaaDoorWalks7W
namespace Go.Proofs.YtpfefbpmchigeaaDoor
set_option linter.unusedSimpArgs false
set_option linter.unusedVariables false
open Go.RowKit

set_option maxHeartbeats 1000000 in
theorem bfI_any (x : Int) (w : World) : Calls Tryd.prog 28 #[.int .i64 x] w fun e w' => e = .returned (.bool (inB x 0 12)) ∧ w = w' := by
  have HE := hid (inB_iff (n := x) (lo := 0) (hi := 12))
  by_cases h0 : 0 ≤ x
  · by_cases h1 : x ≤ 12
    · have e1 : inB x 0 12 = true := HE.out.2 ⟨h0, h1⟩
      rw [e1]
      go_enter Tryd.func28, Tryd.ntmps28
      go_wp2
      go_ret
      exact ⟨rfl, rfl⟩
    · have e1 : inB x 0 12 = false := inB_no.2 (by omega)
      rw [e1]
      go_enter Tryd.func28, Tryd.ntmps28
      go_wp2
      go_ret
      exact ⟨rfl, rfl⟩
  · have e1 : inB x 0 12 = false := inB_no.2 (by omega)
    rw [e1]
    go_enter Tryd.func28, Tryd.ntmps28
    go_wp2
    go_ret
    exact ⟨rfl, rfl⟩
theorem bfI_is {x : Int} {o : Bool} (h : inB x 0 12 = o) (w : World) : Calls Tryd.prog 28 #[.int .i64 x] w fun e w' => e = .returned (.bool o) ∧ w = w' := by
  subst h; exact bfI_any x w

set_option maxHeartbeats 1000000 in
theorem heI_is {n : Nat} {o : Bool} (h : decide (0 < n) = o) (b t : Int) (A : Option Addr) (c : Nat) (w : World) : Calls Tryd.prog 29 #[.agg #[.int .i64 b, .int .i64 t, .slice A n c]] w fun e w' => e = .returned (.bool o) ∧ Below w.heap.size w w' := by
  subst h
  have hO := Own.start w
  have hF := True.intro
  by_cases h : 0 < n
  · have e1 := hid (show decide (0 < n) = true by simpa using h)
    have h2 : (0 : Int) < n := by omega
    go_enter Tryd.func29, Tryd.ntmps29
    go_wp2
    go_ret
    exact ⟨ret_bool (by rw [e1.out]), Own.base (by (repeat (first | (with_reducible exact hO) | (with_reducible apply Own.alloc) | (with_reducible apply Own.drew) | ((with_reducible apply Own.set_at); (focus (show _ ≤ _; omega))))))⟩
  · have e1 := hid (show decide (0 < n) = false by simpa using h)
    have h2 : n = 0 := by omega
    subst h2
    go_enter Tryd.func29, Tryd.ntmps29
    go_wp2
    go_ret
    exact ⟨ret_bool (by rw [e1.out]), Own.base (by (repeat (first | (with_reducible exact hO) | (with_reducible apply Own.alloc) | (with_reducible apply Own.drew) | ((with_reducible apply Own.set_at); (focus (show _ ≤ _; omega))))))⟩

set_option maxHeartbeats 8000000 in
theorem seI_any (b t : Int) (ev : Value) (e : List Int) (w : World) (he : IntsAt w ev e) (hn : e.length ≤ 1048576) :
    Calls Tryd.prog 10 #[.agg #[.int .i64 b, .int .i64 t, ev]] w fun r w' => r = .returned (.bool (seB ⟨b, t, e⟩)) ∧ Below w.heap.size w w' := by
  have hO := Own.start w
  have hF := True.intro
  obtain ⟨A, c, rfl, hA⟩ := he.open hn
  obtain ⟨n, hnl⟩ : ∃ n, e.length = n := ⟨_, rfl⟩
  have HN := hid hnl
  rw [hnl] at hn hA
  have HSE := hid (show seB ⟨b, t, e⟩ = (e.all (fun x => inB x 0 12) && (inB b 0 12 && (inB t 1 4 && ((n : Int) == 0 || (n : Int) == t)))) by
    unfold seB
    simp only
    rw [hnl, Bool.and_assoc, Bool.and_assoc]
    congr 3
    cases e with
    | nil => simp at hnl; subst hnl; rfl
    | cons x r => simp at hnl; subst hnl; simp; omega)
  rw [hnl]
  clear hnl he
  cases hb : inB b 0 12
  · have HE := hid (show seB ⟨b, t, e⟩ = false by rw [HSE.out, hb]; simp)
    have HB := hid (bfI_is hb)
    clear hb hA
    go_enter Tryd.func10, Tryd.ntmps10
    go_wp2_with (go_at_call 28; refine (HB.out _).mono ?_; rintro e w1 ⟨rfl, rfl⟩)
    go_ret
    exact ⟨ret_bool HE.out.symm, Own.base (by (repeat (first | (with_reducible exact hO) | (with_reducible apply Own.alloc) | (with_reducible apply Own.drew) | ((with_reducible apply Own.set_at); (focus (show _ ≤ _; omega))))))⟩
  have HB := hid (bfI_is hb)
  by_cases ht : 1 ≤ t ∧ t ≤ 4
  · have ht' : inB t 1 4 = true := inB_iff.2 ht
    have t1 : ¬ t < 1 := by omega
    have t2 : ¬ 4 < t := by omega
    have HE := hid (show seB ⟨b, t, e⟩ = (e.all (fun x => inB x 0 12) && ((n : Int) == 0 || (n : Int) == t)) by rw [HSE.out, hb, ht']; simp)
    clear HSE hb ht ht'
    by_cases hbad : 0 < n ∧ ¬ (n : Int) = t
    · have HH := hid (heI_is (n := n) (o := true) (by simp [hbad.1]))
      have h3 := hbad.2
      have HE2 := hid (show seB ⟨b, t, e⟩ = false by rw [HE.out]; have h1 : ((n : Int) == 0) = false := by simp; omega
                                                     have h2 : ((n : Int) == t) = false := by simpa using h3
                                                     rw [h1, h2]; simp)
      clear hbad hA
      go_enter Tryd.func10, Tryd.ntmps10
      go_wp2_with (first | (go_at_call 28; refine (HB.out _).mono ?_; rintro e w1 ⟨rfl, rfl⟩) | (go_at_call 29; apply own_at hO; (repeat (first | (with_reducible exact hO) | (with_reducible apply Own.alloc) | (with_reducible apply Own.drew) | ((with_reducible apply Own.set_at); (focus (show _ ≤ _; omega))))); have hG := hF; clear hF; clear hO; intro hO; refine own_call hO (fun hB => HH.out _ _ _ _ _) ?_; clear hO; intro w1 hO; (try simp only [World.size_alloc1, World.size_drew, Nat.reduceAdd] at hO); (try simp only [upd, updI, List.map_cons, List.map_nil, eq_self, if_true, if_false, reduceIte, Nat.add_eq_left, Nat.left_eq_add, Nat.reduceEqDiff, List.set_cons_zero, List.set_cons_succ, hG] at hO); clear hG; have hF := hO; (try simp only [Own, Item.Holds, apartI, CellsAt, Nat.reduceAdd, Nat.zero_add, List.mem_cons, List.not_mem_nil, or_false, forall_eq_or_imp, forall_eq, ne_eq, false_imp_iff, implies_true, and_true] at hF)))
      go_ret
      exact ⟨ret_bool HE2.out.symm, Own.base (by (repeat (first | (with_reducible exact hO) | (with_reducible apply Own.alloc) | (with_reducible apply Own.drew) | ((with_reducible apply Own.set_at); (focus (show _ ≤ _; omega))))))⟩
    · obtain ⟨o, ho⟩ : ∃ o, decide (0 < n) = o := ⟨_, rfl⟩
      have HH := hid (heI_is (n := n) (o := o) ho)
      have HE2 := hid (show seB ⟨b, t, e⟩ = e.all (fun x => inB x 0 12) by
        rw [HE.out]
        by_cases h1 : n = 0
        · have h2 : ((n : Int) == 0) = true := by simp; omega
          rw [h2]; simp
        · have h2 : ((n : Int) == t) = true := by simp; omega
          rw [h2]; simp)
      have HNT : o = true → ¬ ¬ (n : Int) = t := fun h => by subst h; simp at ho; omega
      clear hbad ho HE
      go_enter Tryd.func10, Tryd.ntmps10
      cases o
      · clear HNT
        go_wp2_with (first | (go_at_call 28; refine (HB.out _).mono ?_; rintro e w1 ⟨rfl, rfl⟩) | (go_at_call 29; apply own_at hO; (repeat (first | (with_reducible exact hO) | (with_reducible apply Own.alloc) | (with_reducible apply Own.drew) | ((with_reducible apply Own.set_at); (focus (show _ ≤ _; omega))))); have hG := hF; clear hF; clear hO; intro hO; refine own_call hO (fun hB => HH.out _ _ _ _ _) ?_; clear hO; intro w1 hO; (try simp only [World.size_alloc1, World.size_drew, Nat.reduceAdd] at hO); (try simp only [upd, updI, List.map_cons, List.map_nil, eq_self, if_true, if_false, reduceIte, Nat.add_eq_left, Nat.left_eq_add, Nat.reduceEqDiff, List.set_cons_zero, List.set_cons_succ, hG] at hO); clear hG; have hF := hO; (try simp only [Own, Item.Holds, apartI, CellsAt, Nat.reduceAdd, Nat.zero_add, List.mem_cons, List.not_mem_nil, or_false, forall_eq_or_imp, forall_eq, ne_eq, false_imp_iff, implies_true, and_true] at hF)))
        (apply own_code hO; (repeat (first | (with_reducible exact hO) | (with_reducible apply Own.alloc) | (with_reducible apply Own.drew) | ((with_reducible apply Own.set_at); (focus (show _ ≤ _; omega))))); have hG := hF; clear hF; clear hO; intro hO; (try simp only [World.size_alloc1, World.size_drew, Nat.reduceAdd] at hO); (try simp only [upd, updI, List.map_cons, List.map_nil, eq_self, if_true, if_false, reduceIte, Nat.add_eq_left, Nat.left_eq_add, Nat.reduceEqDiff, List.set_cons_zero, List.set_cons_succ, hG] at hO); clear hG; have hF := hO; (try simp only [Own, Item.Holds, apartI, CellsAt, Nat.reduceAdd, Nat.zero_add, List.mem_cons, List.not_mem_nil, or_false, forall_eq_or_imp, forall_eq, ne_eq, false_imp_iff, implies_true, and_true] at hF))
        obtain ⟨q, hq⟩ : ∃ q, w.heap.size = q := ⟨_, rfl⟩
        rw [hq] at hO ⊢
        have HQ := hid hq
        clear hF hq
        go_loopw [32] (fun s wr => ∃ k : Nat, k ≤ n ∧ s = .int .i64 k ∧ Hid (e.all (fun x => inB x 0 12) = (e.drop k).all (fun x => inB x 0 12)) ∧ Own q (Below q w) wr [.blk q [.int .i64 b, .int .i64 t, .slice A n c]]) (fun s _ => n - (intOf s).toNat)
        case atStart => exact ⟨0, by omega, rfl, rfl, hO⟩
        case round =>
          clear hO
          obtain ⟨k, hk, rfl, HT, hO⟩ := hrel
          have hF := hO; (try simp only [Own, Item.Holds, apartI, CellsAt, Nat.reduceAdd, Nat.zero_add, List.mem_cons, List.not_mem_nil, or_false, forall_eq_or_imp, forall_eq, ne_eq, false_imp_iff, implies_true, and_true] at hF)
          by_cases hend : k = n
          · subst hend
            have HE3 := hid (show seB ⟨b, t, e⟩ = true by
              rw [HE2.out, HT.out, show e.drop k = [] by rw [List.drop_eq_nil_iff]; have := HN.out; omega]; rfl)
            go_wp2_with fail
            go_ret
            exact ⟨ret_bool HE3.out.symm, by have h := hO.base; rwa [← HQ.out] at h⟩
          · have hlt : k < n := by omega
            have hlt2 : (k : Int) < n := by omega
            obtain ⟨b', off, rfl, hc1, hc2, hb, hcell⟩ := hA (by omega)
            obtain ⟨x, hx⟩ : ∃ x, e[k]? = some x := ⟨_, List.getElem?_eq_getElem (by have := HN.out; omega)⟩
            have hbq : Below w.heap.size w wr := by have h := hO.base; rwa [← HQ.out] at h
            have g0 := ((bcell hbq).1 b' (off + k) hb).trans (hcell k x hx)
            have HU := hid (all_up (f := fun x => inB x 0 12) hx)
            obtain ⟨o, ho⟩ : ∃ o, inB x 0 12 = o := ⟨_, rfl⟩
            have HIN := hid (bfI_is ho)
            have HO := hid ho
            clear hend hx ho hcell hbq
            cases o
            · have HE3 := hid (show seB ⟨b, t, e⟩ = false by rw [HE2.out, HT.out, HU.out]; simp only [HO.out, Bool.false_and])
              go_wp2_with (go_at_call 28; refine (HIN.out _).mono ?_; rintro e w1 ⟨rfl, rfl⟩)
              go_ret
              exact ⟨ret_bool HE3.out.symm, by have h := hO.base; rwa [← HQ.out] at h⟩
            · have HE3 := hid (show e.all (fun x => inB x 0 12) = (e.drop (k + 1)).all (fun x => inB x 0 12) by rw [HT.out, HU.out]; simp only [HO.out, Bool.true_and])
              go_wp2_with (go_at_call 28; refine (HIN.out _).mono ?_; rintro e w1 ⟨rfl, rfl⟩)
              go_roundw
              case rel => exact ⟨k + 1, by omega, by go_num, HE3.out, hO⟩
              case measure => simp [intOf]; omega
      · have h3 : (n : Int) = t := Classical.not_not.1 (HNT rfl)
        clear HNT
        go_wp2_with (first | (go_at_call 28; refine (HB.out _).mono ?_; rintro e w1 ⟨rfl, rfl⟩) | (go_at_call 29; apply own_at hO; (repeat (first | (with_reducible exact hO) | (with_reducible apply Own.alloc) | (with_reducible apply Own.drew) | ((with_reducible apply Own.set_at); (focus (show _ ≤ _; omega))))); have hG := hF; clear hF; clear hO; intro hO; refine own_call hO (fun hB => HH.out _ _ _ _ _) ?_; clear hO; intro w1 hO; (try simp only [World.size_alloc1, World.size_drew, Nat.reduceAdd] at hO); (try simp only [upd, updI, List.map_cons, List.map_nil, eq_self, if_true, if_false, reduceIte, Nat.add_eq_left, Nat.left_eq_add, Nat.reduceEqDiff, List.set_cons_zero, List.set_cons_succ, hG] at hO); clear hG; have hF := hO; (try simp only [Own, Item.Holds, apartI, CellsAt, Nat.reduceAdd, Nat.zero_add, List.mem_cons, List.not_mem_nil, or_false, forall_eq_or_imp, forall_eq, ne_eq, false_imp_iff, implies_true, and_true] at hF)))
        (apply own_code hO; (repeat (first | (with_reducible exact hO) | (with_reducible apply Own.alloc) | (with_reducible apply Own.drew) | ((with_reducible apply Own.set_at); (focus (show _ ≤ _; omega))))); have hG := hF; clear hF; clear hO; intro hO; (try simp only [World.size_alloc1, World.size_drew, Nat.reduceAdd] at hO); (try simp only [upd, updI, List.map_cons, List.map_nil, eq_self, if_true, if_false, reduceIte, Nat.add_eq_left, Nat.left_eq_add, Nat.reduceEqDiff, List.set_cons_zero, List.set_cons_succ, hG] at hO); clear hG; have hF := hO; (try simp only [Own, Item.Holds, apartI, CellsAt, Nat.reduceAdd, Nat.zero_add, List.mem_cons, List.not_mem_nil, or_false, forall_eq_or_imp, forall_eq, ne_eq, false_imp_iff, implies_true, and_true] at hF))
        obtain ⟨q, hq⟩ : ∃ q, w.heap.size = q := ⟨_, rfl⟩
        rw [hq] at hO ⊢
        have HQ := hid hq
        clear hF hq
        go_loopw [32] (fun s wr => ∃ k : Nat, k ≤ n ∧ s = .int .i64 k ∧ Hid (e.all (fun x => inB x 0 12) = (e.drop k).all (fun x => inB x 0 12)) ∧ Own q (Below q w) wr [.blk q [.int .i64 b, .int .i64 t, .slice A n c]]) (fun s _ => n - (intOf s).toNat)
        case atStart => exact ⟨0, by omega, rfl, rfl, hO⟩
        case round =>
          clear hO
          obtain ⟨k, hk, rfl, HT, hO⟩ := hrel
          have hF := hO; (try simp only [Own, Item.Holds, apartI, CellsAt, Nat.reduceAdd, Nat.zero_add, List.mem_cons, List.not_mem_nil, or_false, forall_eq_or_imp, forall_eq, ne_eq, false_imp_iff, implies_true, and_true] at hF)
          by_cases hend : k = n
          · subst hend
            have HE3 := hid (show seB ⟨b, t, e⟩ = true by
              rw [HE2.out, HT.out, show e.drop k = [] by rw [List.drop_eq_nil_iff]; have := HN.out; omega]; rfl)
            go_wp2_with fail
            go_ret
            exact ⟨ret_bool HE3.out.symm, by have h := hO.base; rwa [← HQ.out] at h⟩
          · have hlt : k < n := by omega
            have hlt2 : (k : Int) < n := by omega
            obtain ⟨b', off, rfl, hc1, hc2, hb, hcell⟩ := hA (by omega)
            obtain ⟨x, hx⟩ : ∃ x, e[k]? = some x := ⟨_, List.getElem?_eq_getElem (by have := HN.out; omega)⟩
            have hbq : Below w.heap.size w wr := by have h := hO.base; rwa [← HQ.out] at h
            have g0 := ((bcell hbq).1 b' (off + k) hb).trans (hcell k x hx)
            have HU := hid (all_up (f := fun x => inB x 0 12) hx)
            obtain ⟨o, ho⟩ : ∃ o, inB x 0 12 = o := ⟨_, rfl⟩
            have HIN := hid (bfI_is ho)
            have HO := hid ho
            clear hend hx ho hcell hbq
            cases o
            · have HE3 := hid (show seB ⟨b, t, e⟩ = false by rw [HE2.out, HT.out, HU.out]; simp only [HO.out, Bool.false_and])
              go_wp2_with (go_at_call 28; refine (HIN.out _).mono ?_; rintro e w1 ⟨rfl, rfl⟩)
              go_ret
              exact ⟨ret_bool HE3.out.symm, by have h := hO.base; rwa [← HQ.out] at h⟩
            · have HE3 := hid (show e.all (fun x => inB x 0 12) = (e.drop (k + 1)).all (fun x => inB x 0 12) by rw [HT.out, HU.out]; simp only [HO.out, Bool.true_and])
              go_wp2_with (go_at_call 28; refine (HIN.out _).mono ?_; rintro e w1 ⟨rfl, rfl⟩)
              go_roundw
              case rel => exact ⟨k + 1, by omega, by go_num, HE3.out, hO⟩
              case measure => simp [intOf]; omega
  · have HE := hid (show seB ⟨b, t, e⟩ = false by
      have h1 : inB t 1 4 = false := inB_no.2 (by omega)
      rw [HSE.out, hb, h1]; simp)
    by_cases t1 : t < 1
    · clear hb hA ht
      go_enter Tryd.func10, Tryd.ntmps10
      go_wp2_with (go_at_call 28; refine (HB.out _).mono ?_; rintro e w1 ⟨rfl, rfl⟩)
      go_ret
      exact ⟨ret_bool HE.out.symm, Own.base (by (repeat (first | (with_reducible exact hO) | (with_reducible apply Own.alloc) | (with_reducible apply Own.drew) | ((with_reducible apply Own.set_at); (focus (show _ ≤ _; omega))))))⟩
    · have t2 : 4 < t := by omega
      clear hb hA ht
      go_enter Tryd.func10, Tryd.ntmps10
      go_wp2_with (go_at_call 28; refine (HB.out _).mono ?_; rintro e w1 ⟨rfl, rfl⟩)
      go_ret
      exact ⟨ret_bool HE.out.symm, Own.base (by (repeat (first | (with_reducible exact hO) | (with_reducible apply Own.alloc) | (with_reducible apply Own.drew) | ((with_reducible apply Own.set_at); (focus (show _ ≤ _; omega))))))⟩
theorem seI_is {s : Sec} {ev : Value} {w : World} {o : Bool} (he : IntsAt w ev s.e) (hn : s.e.length ≤ 1048576) (h : seB s = o) (W : World) (hW : Below w.heap.size w W) :
    Calls Tryd.prog 10 #[.agg #[.int .i64 s.b, .int .i64 s.t, ev]] W fun r w' => r = .returned (.bool o) ∧ Below W.heap.size W w' := by
  subst h
  exact seI_any s.b s.t ev s.e W (he.below hW) hn
theorem ssB_long {l : List Sec} (h : 8 < l.length) : ssB l = false := by
  cases hs : ssB l with
  | false => rfl
  | true => have := (ssB_iff.1 hs).2; omega

set_option maxHeartbeats 8000000 in
theorem ssI_any (va : Value) (l : List Sec) (w : World) (ha : SecsAt w va l) (hn : l.length ≤ 1048576) (hle : ∀ s ∈ l, s.e.length ≤ 1048576) :
    Calls Tryd.prog 14 #[va] w fun r w' => r = .returned (.bool (ssB l)) ∧ Below w.heap.size w w' := by
  have hO := Own.start w
  have hF := True.intro
  obtain ⟨A, c, rfl, hA⟩ := ha.open
  obtain ⟨n, hnl⟩ : ∃ n, l.length = n := ⟨_, rfl⟩
  have HN := hid hnl
  have HLE := hid hle
  by_cases h8 : 8 < n
  · have HE := hid (ssB_long (l := l) (by omega))
    rw [hnl]
    have h8' : (8 : Int) < n := by omega
    clear hA ha hle hnl
    go_enter Tryd.func14, Tryd.ntmps14
    go_wp2_with fail
    go_ret
    exact ⟨ret_bool HE.out.symm, hO.base⟩
  have h8' : ¬ (8 : Int) < n := by omega
  rw [hnl] at hn hA
  rw [hnl]
  clear hnl ha hle h8
  go_enter Tryd.func14, Tryd.ntmps14
  go_wp2_with fail
  go_loopw [10] (fun t wr => ∃ k : Nat, k ≤ n ∧ t = .int .i64 k ∧ Hid (l.all seB = (l.drop k).all seB) ∧ Own w.heap.size (Below w.heap.size w) wr []) (fun t _ => n - (intOf t).toNat)
  case atStart => exact ⟨0, by omega, rfl, rfl, hO⟩
  case round =>
    clear hO hF
    obtain ⟨k, hk, rfl, HT, hO⟩ := hrel
    have hF := True.intro
    by_cases hend : k = n
    · subst hend
      have HE := hid (show ssB l = true by
        unfold ssB
        rw [HT.out, show l.drop k = [] by rw [List.drop_eq_nil_iff]; have := HN.out; omega, HN.out]
        rw [List.all_nil, Bool.true_and]
        simp; omega)
      go_wp2_with fail
      go_ret
      exact ⟨ret_bool HE.out.symm, hO.base⟩
    · have hlt : k < n := by omega
      have hlt2 : (k : Int) < n := by omega
      obtain ⟨b', off, rfl, hc1, hc2, hb, hcell⟩ := hA (by omega)
      obtain ⟨s, hs⟩ : ∃ s, l[k]? = some s := ⟨_, List.getElem?_eq_getElem (by have := HN.out; omega)⟩
      obtain ⟨ev, hev, d0, d1, d2⟩ := hcell k s hs
      have g0 := ((bcell hO.base).1 b' (off + k * 3) hb).trans d0
      have g1 := ((bcell hO.base).1 b' (off + k * 3 + 1) hb).trans d1
      have g2 := ((bcell hO.base).1 b' (off + k * 3 + 2) hb).trans d2
      obtain ⟨o, ho⟩ : ∃ o, seB s = o := ⟨_, rfl⟩
      have HV := hid (seI_is hev (HLE.out s (List.mem_of_getElem? hs)) ho)
      obtain ⟨A2, c2, rfl, _⟩ := hev.open (HLE.out s (List.mem_of_getElem? hs))
      have HU := hid (sec_up hs)
      rw [ho] at HU
      clear hend hs ho hcell hev d0 d1 d2
      cases o
      · have HE := hid (show ssB l = false by unfold ssB; rw [HT.out, HU.out]; simp)
        go_wp2_with (go_at_call 10; apply own_at hO; (repeat (first | (with_reducible exact hO) | (with_reducible apply Own.alloc) | (with_reducible apply Own.drew) | ((with_reducible apply Own.set_at); (focus (show _ ≤ _; omega))))); have hG := hF; clear hF; clear hO; intro hO; refine own_call hO (fun hB => HV.out _ hB) ?_; clear hO; intro w1 hO; (try simp only [World.size_alloc1, World.size_drew, Nat.reduceAdd] at hO); (try simp only [upd, updI, List.map_cons, List.map_nil, eq_self, if_true, if_false, reduceIte, Nat.add_eq_left, Nat.left_eq_add, Nat.reduceEqDiff, List.set_cons_zero, List.set_cons_succ, hG] at hO); clear hG; have hF := hO; (try simp only [Own, Item.Holds, apartI, CellsAt, Nat.reduceAdd, Nat.zero_add, List.mem_cons, List.not_mem_nil, or_false, forall_eq_or_imp, forall_eq, ne_eq, false_imp_iff, implies_true, and_true] at hF))
        go_ret
        exact ⟨ret_bool HE.out.symm, Own.base (by (repeat (first | (with_reducible exact hO) | (with_reducible apply Own.alloc) | (with_reducible apply Own.drew) | ((with_reducible apply Own.set_at); (focus (show _ ≤ _; omega))))))⟩
      · have HE := hid (show l.all seB = (l.drop (k + 1)).all seB by rw [HT.out, HU.out, Bool.true_and])
        go_wp2_with (go_at_call 10; apply own_at hO; (repeat (first | (with_reducible exact hO) | (with_reducible apply Own.alloc) | (with_reducible apply Own.drew) | ((with_reducible apply Own.set_at); (focus (show _ ≤ _; omega))))); have hG := hF; clear hF; clear hO; intro hO; refine own_call hO (fun hB => HV.out _ hB) ?_; clear hO; intro w1 hO; (try simp only [World.size_alloc1, World.size_drew, Nat.reduceAdd] at hO); (try simp only [upd, updI, List.map_cons, List.map_nil, eq_self, if_true, if_false, reduceIte, Nat.add_eq_left, Nat.left_eq_add, Nat.reduceEqDiff, List.set_cons_zero, List.set_cons_succ, hG] at hO); clear hG; have hF := hO; (try simp only [Own, Item.Holds, apartI, CellsAt, Nat.reduceAdd, Nat.zero_add, List.mem_cons, List.not_mem_nil, or_false, forall_eq_or_imp, forall_eq, ne_eq, false_imp_iff, implies_true, and_true] at hF))
        go_roundw
        case rel => exact ⟨k + 1, by omega, by go_num, HE.out, by first | exact hO | exact hO.sub (List.nil_sublist _)⟩
        case measure => simp [intOf]; omega
theorem ssI_is {va : Value} {l : List Sec} {w : World} {o : Bool} (ha : SecsAt w va l) (hn : l.length ≤ 1048576) (hle : ∀ s ∈ l, s.e.length ≤ 1048576) (h : ssB l = o) (W : World) (hW : Below w.heap.size w W) :
    Calls Tryd.prog 14 #[va] W fun r w' => r = .returned (.bool o) ∧ Below W.heap.size W w' := by
  subst h
  exact ssI_any va l W (ha.below hW) hn hle

set_option maxHeartbeats 8000000 in
theorem wbI_any (s : Sec) (ev : Value) (w : World) (he : IntsAt w ev s.e) (hv : seB s = true) :
    Calls Tryd.prog 33 #[.agg #[.int .i64 s.b, .int .i64 s.t, ev]] w fun r w' => r = .returned (.int .i64 (wrS s)) ∧ Below w.heap.size w w' := by
  have hO := Own.start w
  have hF := True.intro
  have hst := se_take hv
  have bb := (seB_iff.1 hv).2.1
  have m4 := (hst 0).2.2
  obtain ⟨A, c, rfl, hA⟩ := he.open (by omega)
  obtain ⟨n, hnl⟩ : ∃ n, s.e.length = n := ⟨_, rfl⟩
  have HN := hid hnl
  have HVO := hid hv
  have HST := hid hst
  rw [hnl] at hA m4
  rw [hnl]
  clear hnl he hst hv
  go_enter Tryd.func33, Tryd.ntmps33
  go_wp2_with fail
  (apply own_code hO; (repeat (first | (with_reducible exact hO) | (with_reducible apply Own.alloc) | (with_reducible apply Own.drew) | ((with_reducible apply Own.set_at); (focus (show _ ≤ _; omega))))); have hG := hF; clear hF; clear hO; intro hO; (try simp only [World.size_alloc1, World.size_drew, Nat.reduceAdd] at hO); (try simp only [upd, updI, List.map_cons, List.map_nil, eq_self, if_true, if_false, reduceIte, Nat.add_eq_left, Nat.left_eq_add, Nat.reduceEqDiff, List.set_cons_zero, List.set_cons_succ, hG] at hO); clear hG; have hF := hO; (try simp only [Own, Item.Holds, apartI, CellsAt, Nat.reduceAdd, Nat.zero_add, List.mem_cons, List.not_mem_nil, or_false, forall_eq_or_imp, forall_eq, ne_eq, false_imp_iff, implies_true, and_true] at hF))
  clear hF
  go_loopw [3, 11] (fun z t wr => ∃ k : Nat, k ≤ n ∧ t = .int .i64 k ∧ z = .int .i64 (s.b + sumI (s.e.take k)) ∧ Own w.heap.size (Below w.heap.size w) wr []) (fun _ t _ => n - (intOf t).toNat)
  case atStart => exact ⟨0, by omega, rfl, by simp [sumI], hO.sub (List.nil_sublist _)⟩
  case round =>
    clear hO
    obtain ⟨k, hk, rfl, rfl, hO⟩ := hrel
    have hF := True.intro
    by_cases hend : k = n
    · subst hend
      have e1 : s.b + sumI (s.e.take k) = wrS s := by rw [← HN.out, List.take_length]; rfl
      rw [e1]
      go_wp2_with fail
      go_ret
      exact ⟨rfl, hO.base⟩
    · have hlt : k < n := by omega
      have hlt2 : (k : Int) < n := by omega
      obtain ⟨b', off, rfl, hc1, hc2, hb, hcell⟩ := hA (by omega)
      obtain ⟨x, hx⟩ : ∃ x, s.e[k]? = some x := ⟨_, List.getElem?_eq_getElem (by have := HN.out; omega)⟩
      have g0 := ((bcell hO.base).1 b' (off + k) hb).trans (hcell k x hx)
      have xb := (seB_iff.1 HVO.out).1 x (List.mem_of_getElem? hx)
      obtain ⟨tb1, tb2, _⟩ := HST.out k
      have HX := hid (sumI_up hx)
      obtain ⟨T, hT⟩ : ∃ T, sumI (s.e.take k) = T := ⟨_, rfl⟩
      rw [hT] at tb1 tb2 HX
      rw [hT]
      clear hend hx hcell hT
      go_wp2_with fail
      go_roundw
      case rel => exact ⟨k + 1, by omega, by go_num, by rw [HX.out]; congr 1; omega, hO⟩
      case measure => simp [intOf]; omega
theorem wbI_is {s : Sec} {ev : Value} {w : World} (he : IntsAt w ev s.e) (hv : seB s = true) (W : World) (hW : Below w.heap.size w W) :
    Calls Tryd.prog 33 #[.agg #[.int .i64 s.b, .int .i64 s.t, ev]] W fun r w' => r = .returned (.int .i64 (wrS s)) ∧ Below W.heap.size W w' := wbI_any s ev W (he.below hW) hv

set_option maxHeartbeats 8000000 in
theorem wrI_any (va : Value) (l : List Sec) (w : World) (ha : SecsAt w va l) (hn : l.length ≤ 1048576) (hle : ∀ s ∈ l, s.e.length ≤ 1048576) :
    Calls Tryd.prog 17 #[va] w fun r w' => r = .returned (.int .i64 (wrZ l)) ∧ Below w.heap.size w w' := by
  have hO := Own.start w
  have hF := True.intro
  obtain ⟨A, c, rfl, hA⟩ := ha.open
  obtain ⟨n, hnl⟩ : ∃ n, l.length = n := ⟨_, rfl⟩
  have HN := hid hnl
  cases hv : ssB l
  · have HE := hid (show wrZ l = -1 by unfold wrZ; rw [hv]; rfl)
    have HV := hid (ssI_is ha hn hle hv)
    rw [hnl] at hA hn HV
    rw [hnl]
    clear ha hle hv hA hnl
    go_enter Tryd.func17, Tryd.ntmps17
    go_wp2_with (go_at_call 14; apply own_at hO; (repeat (first | (with_reducible exact hO) | (with_reducible apply Own.alloc) | (with_reducible apply Own.drew) | ((with_reducible apply Own.set_at); (focus (show _ ≤ _; omega))))); have hG := hF; clear hF; clear hO; intro hO; refine own_call hO (fun hB => HV.out _ hB) ?_; clear hO; intro w1 hO; (try simp only [World.size_alloc1, World.size_drew, Nat.reduceAdd] at hO); (try simp only [upd, updI, List.map_cons, List.map_nil, eq_self, if_true, if_false, reduceIte, Nat.add_eq_left, Nat.left_eq_add, Nat.reduceEqDiff, List.set_cons_zero, List.set_cons_succ, hG] at hO); clear hG; have hF := hO; (try simp only [Own, Item.Holds, apartI, CellsAt, Nat.reduceAdd, Nat.zero_add, List.mem_cons, List.not_mem_nil, or_false, forall_eq_or_imp, forall_eq, ne_eq, false_imp_iff, implies_true, and_true] at hF))
    go_ret
    exact ⟨ret_int HE.out.symm, Own.base (by (repeat (first | (with_reducible exact hO) | (with_reducible apply Own.alloc) | (with_reducible apply Own.drew) | ((with_reducible apply Own.set_at); (focus (show _ ≤ _; omega))))))⟩
  · have HE := hid (show wrZ l = wrN l by unfold wrZ; rw [hv]; rfl)
    have HV := hid (ssI_is ha hn hle hv)
    have HVO := hid hv
    rw [hnl] at hA hn HV
    rw [hnl]
    clear ha hle hv hnl
    go_enter Tryd.func17, Tryd.ntmps17
    go_wp2_with (go_at_call 14; apply own_at hO; (repeat (first | (with_reducible exact hO) | (with_reducible apply Own.alloc) | (with_reducible apply Own.drew) | ((with_reducible apply Own.set_at); (focus (show _ ≤ _; omega))))); have hG := hF; clear hF; clear hO; intro hO; refine own_call hO (fun hB => HV.out _ hB) ?_; clear hO; intro w1 hO; (try simp only [World.size_alloc1, World.size_drew, Nat.reduceAdd] at hO); (try simp only [upd, updI, List.map_cons, List.map_nil, eq_self, if_true, if_false, reduceIte, Nat.add_eq_left, Nat.left_eq_add, Nat.reduceEqDiff, List.set_cons_zero, List.set_cons_succ, hG] at hO); clear hG; have hF := hO; (try simp only [Own, Item.Holds, apartI, CellsAt, Nat.reduceAdd, Nat.zero_add, List.mem_cons, List.not_mem_nil, or_false, forall_eq_or_imp, forall_eq, ne_eq, false_imp_iff, implies_true, and_true] at hF))
    (apply own_code hO; (repeat (first | (with_reducible exact hO) | (with_reducible apply Own.alloc) | (with_reducible apply Own.drew) | ((with_reducible apply Own.set_at); (focus (show _ ≤ _; omega))))); have hG := hF; clear hF; clear hO; intro hO; (try simp only [World.size_alloc1, World.size_drew, Nat.reduceAdd] at hO); (try simp only [upd, updI, List.map_cons, List.map_nil, eq_self, if_true, if_false, reduceIte, Nat.add_eq_left, Nat.left_eq_add, Nat.reduceEqDiff, List.set_cons_zero, List.set_cons_succ, hG] at hO); clear hG; have hF := hO; (try simp only [Own, Item.Holds, apartI, CellsAt, Nat.reduceAdd, Nat.zero_add, List.mem_cons, List.not_mem_nil, or_false, forall_eq_or_imp, forall_eq, ne_eq, false_imp_iff, implies_true, and_true] at hF))
    clear hF
    go_loopw [3, 11] (fun s t wr => ∃ k : Nat, k ≤ n ∧ t = .int .i64 k ∧ s = .int .i64 (wrN (l.take k)) ∧ Own w.heap.size (Below w.heap.size w) wr []) (fun _ t _ => n - (intOf t).toNat)
    case atStart => exact ⟨0, by omega, rfl, rfl, hO⟩
    case round =>
      clear hO
      obtain ⟨k, hk, rfl, rfl, hO⟩ := hrel
      have hF := True.intro
      by_cases hend : k = n
      · subst hend
        have e1 : wrN (l.take k) = wrZ l := by rw [HE.out, ← HN.out, List.take_length]
        rw [e1]
        go_wp2_with fail
        go_ret
        exact ⟨rfl, hO.base⟩
      · have hlt : k < n := by omega
        have hlt2 : (k : Int) < n := by omega
        obtain ⟨b', off, rfl, hc1, hc2, hb, hcell⟩ := hA (by omega)
        obtain ⟨s, hs⟩ : ∃ s, l[k]? = some s := ⟨_, List.getElem?_eq_getElem (by have := HN.out; omega)⟩
        obtain ⟨ev, hev, d0, d1, d2⟩ := hcell k s hs
        have hse := ss_at HVO.out hs
        have g0 := ((bcell hO.base).1 b' (off + k * 3) hb).trans d0
        have g1 := ((bcell hO.base).1 b' (off + k * 3 + 1) hb).trans d1
        have g2 := ((bcell hO.base).1 b' (off + k * 3 + 2) hb).trans d2
        have sb := ss_take HVO.out k
        have sb2 := ss_take HVO.out (k + 1)
        have HU := hid (wrN_up hs)
        have hwp := wrS_pos hse
        have HW := hid (wbI_is hev hse)
        obtain ⟨A2, c2, rfl, _⟩ := hev.open (by have := (se_take hse 0).2.2; omega)
        have e2 := wrN_up hs
        rw [e2] at sb2
        obtain ⟨S, hS⟩ : ∃ S, wrN (l.take k) = S := ⟨_, rfl⟩
        rw [hS] at sb sb2 HU
        rw [hS]
        have HZ := hid (show wrS s = s.b + sumI s.e from rfl)
        obtain ⟨z, hz⟩ : ∃ z, wrS s = z := ⟨_, rfl⟩
        rw [← HZ.out, hz] at HU sb2
        rw [hz] at HW hwp
        clear hend hs hcell hev d0 d1 d2 hse hS hz e2 HZ
        go_wp2_with (go_at_call 33; apply own_at hO; (repeat (first | (with_reducible exact hO) | (with_reducible apply Own.alloc) | (with_reducible apply Own.drew) | ((with_reducible apply Own.set_at); (focus (show _ ≤ _; omega))))); have hG := hF; clear hF; clear hO; intro hO; refine own_call hO (fun hB => HW.out _ hB) ?_; clear hO; intro w1 hO; (try simp only [World.size_alloc1, World.size_drew, Nat.reduceAdd] at hO); (try simp only [upd, updI, List.map_cons, List.map_nil, eq_self, if_true, if_false, reduceIte, Nat.add_eq_left, Nat.left_eq_add, Nat.reduceEqDiff, List.set_cons_zero, List.set_cons_succ, hG] at hO); clear hG; have hF := hO; (try simp only [Own, Item.Holds, apartI, CellsAt, Nat.reduceAdd, Nat.zero_add, List.mem_cons, List.not_mem_nil, or_false, forall_eq_or_imp, forall_eq, ne_eq, false_imp_iff, implies_true, and_true] at hF))
        go_roundw
        case rel => exact ⟨k + 1, by omega, by go_num, by rw [HU.out], by first | exact hO | exact hO.sub (List.nil_sublist _)⟩
        case measure => simp [intOf]; omega
theorem wrI_is {va : Value} {l : List Sec} {w : World} {z : Int} (ha : SecsAt w va l) (hn : l.length ≤ 1048576) (hle : ∀ s ∈ l, s.e.length ≤ 1048576) (h : wrZ l = z) (W : World) (hW : Below w.heap.size w W) :
    Calls Tryd.prog 17 #[va] W fun r w' => r = .returned (.int .i64 z) ∧ Below W.heap.size W w' := by
  subst h
  exact wrI_any va l W (ha.below hW) hn hle
end Go.Proofs.YtpfefbpmchigeaaDoor
