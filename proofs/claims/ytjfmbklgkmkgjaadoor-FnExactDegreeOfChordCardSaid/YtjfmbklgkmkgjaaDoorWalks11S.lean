/- Chapter 11 in the model: chords of keys, degrees of chords, progressions, cadences. -/
import Derived.Test.YtjfmbklgkmkgjaaDoorWalks10T
import Derived.Test.YtjfmbklgkmkgjaaDoorWalks3S
import Derived.Test.YtjfmbklgkmkgjaaDoorPure11
namespace Go.Proofs.YtjfmbklgkmkgjaaDoor
set_option linter.unusedSimpArgs false
set_option linter.unusedVariables false
set_option maxRecDepth 8000
open Go.RowKit

def ctN (sv : Bool) : Nat := if sv then 4 else 3
theorem stL_at {sv : Bool} {j : Nat} (hj : j < ctN sv) : (stL sv)[j]? = some (2 * (j : Int)) := by
  unfold ctN at hj
  cases sv
  · simp at hj
    rcases (show j = 0 ∨ j = 1 ∨ j = 2 by omega) with rfl | rfl | rfl <;> rfl
  · simp at hj
    rcases (show j = 0 ∨ j = 1 ∨ j = 2 ∨ j = 3 by omega) with rfl | rfl | rfl | rfl <;> rfl
theorem coL_n {f d : Int} (m sv : Bool) (h : coB f d = true) : (coL f m d sv).length = ctN sv := by
  unfold coL; rw [if_pos h, List.length_map]; cases sv <;> rfl
theorem coL_at {f d : Int} {m sv : Bool} {j : Nat} (h : coB f d = true) (hj : j < ctN sv) : (coL f m d sv)[j]? = some (plP f (28 + tonZ f m + d + 2 * (j : Int))) := by
  unfold coL; rw [if_pos h, List.getElem?_map, stL_at hj]; rfl
theorem coL_no {f d : Int} (m sv : Bool) (h : coB f d = false) : coL f m d sv = [] := by unfold coL; rw [h]; rfl
theorem coB_parts {f d : Int} (h : coB f d = true) : inB f (-7) 7 = true ∧ inB d 0 6 = true := by
  have : (keyB f && inB d 0 6) = true := h
  rwa [Bool.and_eq_true] at this
theorem take_up11 {T : List Pt} {x : Pt} {j : Nat} (hx : T[j]? = some x) : pcC (T.take j) ++ [.int .i64 x.s, .int .i64 x.a, .int .i64 x.o] = pcC (T.take (j + 1)) := by
  rw [List.take_add_one, hx]
  exact pcC_snoc _ _

set_option maxRecDepth 8000 in
set_option maxHeartbeats 4000000 in
theorem coS_false (f d : Int) (m : Bool) (w : World) (h : coB f d = true) :
    Calls Tryd.prog 23 #[.int .i64 f, .bool m, .int .i64 d, .bool false] w (RowOut 24 3 3 (pcC (coL f m d false)) w) := by
  have hO := Own.start w
  have hF := True.intro
  obtain ⟨i0, hi, hz0, hz1, hz2⟩ := info_parts infoPi
  obtain ⟨t0, t6⟩ := tonZ_bd f m
  obtain ⟨hb, hd⟩ := coB_parts h
  obtain ⟨f0, f1⟩ := inB_iff.1 hb
  obtain ⟨d0, d6⟩ := inB_iff.1 hd
  have HA := hid (show ∀ j : Nat, j < 3 → (coL f m d false)[j]? = some (plP f (28 + tonZ f m + d + 2 * (j : Int))) from fun j hj => coL_at h (show j < ctN false from hj))
  have HN := hid (show (coL f m d false).length = 3 from coL_n m false h)
  obtain ⟨T, hT⟩ : ∃ T, coL f m d false = T := ⟨_, rfl⟩
  rw [hT] at HA HN
  rw [hT]
  have HTO := hid (fun W => tonS_any f m W f0 f1)
  obtain ⟨t, ht⟩ : ∃ t, tonZ f m = t := ⟨_, rfl⟩
  rw [ht] at HTO HA t0 t6
  clear hT h ht
  go_enter Tryd.func23, Tryd.ntmps23
  go_wp2_with (go_at_call 50; refine (in_any _ _ _ _).mono ?_; rintro e w1 ⟨rfl, rfl⟩)
  go_loopw [9, 11] (fun u t wr => ∃ j : Nat, j ≤ 3 ∧ t = .int .i64 (2 * (j : Int)) ∧ Own w.heap.size (Below w.heap.size w) wr [.row 24 3 u j (pcC (T.take j))]) (fun _ t _ => (4 + 2 - intOf t).toNat)
  case atStart => exact ⟨0, by omega, rfl, hO.allocRow (cur := #[]) (k := 0) (cap := 0) 3 (by omega) (by unfold maxLen; omega) rfl⟩
  case round =>
    clear hO
    obtain ⟨j, hj, rfl, hO⟩ := hrel
    by_cases he : j = 3
    · subst he
      have HE := hid (show T.take 3 = T by rw [← HN.out, List.take_length])
      go_wp2
      go_ret
      rw [HE.out] at hO
      exact RowOut.mk hO
    · have hlt : j < 3 := by omega
      have hlt2 : 2 * (j : Int) ≤ 4 := by omega
      have q0 : 0 ≤ (28 + t + d + 2 * (j : Int)) % 7 := by omega
      have q1 : (28 + t + d + 2 * (j : Int)) % 7 ≤ 6 := by omega
      have HU := hid (take_up11 (HA.out j hlt))
      simp only [plP] at HU
      clear he
      go_wp2_with (first | (go_at_call 68; refine (HTO.out _).mono ?_; rintro e w1 ⟨rfl, rfl⟩) | (go_at_call 69; apply own_at hO; (repeat (first | (with_reducible exact hO) | (with_reducible apply Own.alloc) | (with_reducible apply Own.drew) | ((with_reducible apply Own.set_at); (focus (show _ ≤ _; omega))))); have hG := hF; clear hF; clear hO; intro hO; refine own_call hO (fun hB => altS_any _ _ _ q0 q1) ?_; clear hO; intro w1 hO; (try simp only [World.size_alloc1, World.size_drew, Nat.reduceAdd] at hO); (try simp only [upd, updI, List.map_cons, List.map_nil, eq_self, if_true, if_false, reduceIte, Nat.add_eq_left, Nat.left_eq_add, Nat.reduceEqDiff, List.set_cons_zero, List.set_cons_succ, hG] at hO); clear hG; have hF := hO; (try simp only [Own, Item.Holds, apartI, CellsAt, Nat.reduceAdd, Nat.zero_add, List.mem_cons, List.not_mem_nil, or_false, forall_eq_or_imp, forall_eq, ne_eq, false_imp_iff, implies_true, and_true] at hF)) | (at_builtin; refine wpList_append_item rfl _ _ 27 rfl 24 i0 (.agg #[.int .i64 0, .int .i64 0, .int .i64 0]) 3 24 Tryd.underlying27 hi hz0 hz1 hz2 rfl (by decide) rfl rfl (Own.alloc hO) rfl one3t (by unfold maxLen; omega) (by omega) ?_; clear hO hF; intro v' w2 hO _; have hF := True.intro))
      go_roundw
      case rel => exact ⟨j + 1, by omega, by go_num, by rw [← HU.out]; exact hO⟩
      case measure => simp [intOf]; omega

set_option maxRecDepth 8000 in
set_option maxHeartbeats 4000000 in
theorem coS_true (f d : Int) (m : Bool) (w : World) (h : coB f d = true) :
    Calls Tryd.prog 23 #[.int .i64 f, .bool m, .int .i64 d, .bool true] w (RowOut 24 3 4 (pcC (coL f m d true)) w) := by
  have hO := Own.start w
  have hF := True.intro
  obtain ⟨i0, hi, hz0, hz1, hz2⟩ := info_parts infoPi
  obtain ⟨t0, t6⟩ := tonZ_bd f m
  obtain ⟨hb, hd⟩ := coB_parts h
  obtain ⟨f0, f1⟩ := inB_iff.1 hb
  obtain ⟨d0, d6⟩ := inB_iff.1 hd
  have HA := hid (show ∀ j : Nat, j < 4 → (coL f m d true)[j]? = some (plP f (28 + tonZ f m + d + 2 * (j : Int))) from fun j hj => coL_at h (show j < ctN true from hj))
  have HN := hid (show (coL f m d true).length = 4 from coL_n m true h)
  obtain ⟨T, hT⟩ : ∃ T, coL f m d true = T := ⟨_, rfl⟩
  rw [hT] at HA HN
  rw [hT]
  have HTO := hid (fun W => tonS_any f m W f0 f1)
  obtain ⟨t, ht⟩ : ∃ t, tonZ f m = t := ⟨_, rfl⟩
  rw [ht] at HTO HA t0 t6
  clear hT h ht
  go_enter Tryd.func23, Tryd.ntmps23
  go_wp2_with (go_at_call 50; refine (in_any _ _ _ _).mono ?_; rintro e w1 ⟨rfl, rfl⟩)
  go_loopw [9, 11] (fun u t wr => ∃ j : Nat, j ≤ 4 ∧ t = .int .i64 (2 * (j : Int)) ∧ Own w.heap.size (Below w.heap.size w) wr [.row 24 3 u j (pcC (T.take j))]) (fun _ t _ => (6 + 2 - intOf t).toNat)
  case atStart => exact ⟨0, by omega, rfl, hO.allocRow (cur := #[]) (k := 0) (cap := 0) 3 (by omega) (by unfold maxLen; omega) rfl⟩
  case round =>
    clear hO
    obtain ⟨j, hj, rfl, hO⟩ := hrel
    by_cases he : j = 4
    · subst he
      have HE := hid (show T.take 4 = T by rw [← HN.out, List.take_length])
      go_wp2
      go_ret
      rw [HE.out] at hO
      exact RowOut.mk hO
    · have hlt : j < 4 := by omega
      have hlt2 : 2 * (j : Int) ≤ 6 := by omega
      have q0 : 0 ≤ (28 + t + d + 2 * (j : Int)) % 7 := by omega
      have q1 : (28 + t + d + 2 * (j : Int)) % 7 ≤ 6 := by omega
      have HU := hid (take_up11 (HA.out j hlt))
      simp only [plP] at HU
      clear he
      go_wp2_with (first | (go_at_call 68; refine (HTO.out _).mono ?_; rintro e w1 ⟨rfl, rfl⟩) | (go_at_call 69; apply own_at hO; (repeat (first | (with_reducible exact hO) | (with_reducible apply Own.alloc) | (with_reducible apply Own.drew) | ((with_reducible apply Own.set_at); (focus (show _ ≤ _; omega))))); have hG := hF; clear hF; clear hO; intro hO; refine own_call hO (fun hB => altS_any _ _ _ q0 q1) ?_; clear hO; intro w1 hO; (try simp only [World.size_alloc1, World.size_drew, Nat.reduceAdd] at hO); (try simp only [upd, updI, List.map_cons, List.map_nil, eq_self, if_true, if_false, reduceIte, Nat.add_eq_left, Nat.left_eq_add, Nat.reduceEqDiff, List.set_cons_zero, List.set_cons_succ, hG] at hO); clear hG; have hF := hO; (try simp only [Own, Item.Holds, apartI, CellsAt, Nat.reduceAdd, Nat.zero_add, List.mem_cons, List.not_mem_nil, or_false, forall_eq_or_imp, forall_eq, ne_eq, false_imp_iff, implies_true, and_true] at hF)) | (at_builtin; refine wpList_append_item rfl _ _ 27 rfl 24 i0 (.agg #[.int .i64 0, .int .i64 0, .int .i64 0]) 3 24 Tryd.underlying27 hi hz0 hz1 hz2 rfl (by decide) rfl rfl (Own.alloc hO) rfl one3t (by unfold maxLen; omega) (by omega) ?_; clear hO hF; intro v' w2 hO _; have hF := True.intro))
      go_roundw
      case rel => exact ⟨j + 1, by omega, by go_num, by rw [← HU.out]; exact hO⟩
      case measure => simp [intOf]; omega

theorem coB_not {f d : Int} (h : coB f d = false) : inB f (-7) 7 = false ∨ inB f (-7) 7 = true ∧ inB d 0 6 = false := by
  have : (inB f (-7) 7 && inB d 0 6) = false := h
  cases h1 : inB f (-7) 7
  · exact Or.inl rfl
  · rw [h1, Bool.true_and] at this
    exact Or.inr ⟨rfl, this⟩
theorem coS_no (f d : Int) (m sv : Bool) (w : World) (h : coB f d = false) :
    Calls Tryd.prog 23 #[.int .i64 f, .bool m, .int .i64 d, .bool sv] w (RowOut 24 3 0 [] w) := by
  have hO := Own.start w
  have hF := True.intro
  rcases coB_not h with h1 | ⟨h1, h2⟩
  all_goals
    clear h
    go_enter Tryd.func23, Tryd.ntmps23
    go_wp2_with (go_at_call 50; refine (in_any _ _ _ _).mono ?_; rintro e w1 ⟨rfl, rfl⟩)
    go_ret
    exact RowOut.mk (hO.allocRow (e := 24) (cur := #[]) (k := 0) (cap := 0) 3 (by omega) (by unfold maxLen; omega) rfl)
theorem coS_any (f d : Int) (m sv : Bool) (w : World) :
    Calls Tryd.prog 23 #[.int .i64 f, .bool m, .int .i64 d, .bool sv] w (RowOut 24 3 (coL f m d sv).length (pcC (coL f m d sv)) w) := by
  cases h : coB f d
  · rw [coL_no m sv h]; exact coS_no f d m sv w h
  · rw [coL_n m sv h]
    cases sv
    · exact coS_false f d m w h
    · exact coS_true f d m w h

/- Degrees of chords. -/
def ok3 (l t : List Pt) (j : Nat) : Bool := (l.take j).all fun x => pvP x && hasB t x
theorem ok3_up {l t : List Pt} {j : Nat} {x : Pt} (hx : l[j]? = some x) : ok3 l t (j + 1) = (ok3 l t j && (pvP x && hasB t x)) := by
  unfold ok3
  rw [List.take_add_one, hx, List.all_append]
  simp
theorem ok3_all {l t : List Pt} {n : Nat} (h : l.length = n) : ok3 l t n = l.all fun x => pvP x && hasB t x := by
  unfold ok3; rw [← h, List.take_length]
theorem deg_at {c : Nat} (h : c < 7) : degL[c]? = some (c : Int) := by
  obtain rfl | rfl | rfl | rfl | rfl | rfl | rfl : c = 0 ∨ c = 1 ∨ c = 2 ∨ c = 3 ∨ c = 4 ∨ c = 5 ∨ c = 6 := by omega
  all_goals rfl
theorem dg_none {f : Int} {m : Bool} {l : List Pt} {c : Int} (h1 : fitB l (coL f m c false) = false) (h2 : fitB l (coL f m c true) = false) : dgF f m l c = none := by
  unfold dgF; rw [h1, h2]; rfl
theorem dg_some {f : Int} {m : Bool} {l : List Pt} {c : Int} {sv : Bool} (h : fitB l (coL f m c sv) = true) : dgF f m l c = some c := by
  unfold dgF; cases sv <;> rw [h] <;> simp
theorem int_01 {n : Nat} (h : n < 2) : n = 0 ∨ n = 1 := by omega

set_option maxRecDepth 20000 in
set_option maxHeartbeats 16000000 in
theorem dcS_in (f : Int) (m : Bool) (va : Value) (l : List Pt) (n : Nat) (w : World) (hnl : l.length = n) (hs : SlAt w va n 3 (pcC l)) (h1 : 1 ≤ n) (h12 : n ≤ 12) (hb : inB f (-7) 7 = true) :
    Calls Tryd.prog 28 #[.int .i64 f, .bool m, va] w fun e w' => e = .returned (.int .i64 (dcZ f m l)) ∧ Below w.heap.size w w' := by
  have hO := Own.start w
  have hF := True.intro
  obtain ⟨A, cA, rfl, nb, hA⟩ := hs.open
  obtain ⟨b, off, rfl, hc1, hc2, hbb⟩ := hA (by omega)
  have HA := hid hs
  have HN := hid hnl
  have HE := hid (show dcZ f m l = ((degL.drop 0).findSome? (dgF f m l)).getD (-1) by
    unfold dcZ; rw [show keyB f = true from hb, hnl, decide_eq_true h1, decide_eq_true h12]; rfl)
  have HIN := hid (fun W => in_is (n := f) W hb)
  have HIL := hid (fun W => in_is (n := (n : Int)) (lo := 1) (hi := 12) W (inB_iff.2 (by omega)))
  clear hs hA hnl hb
  go_enter Tryd.func28, Tryd.ntmps28
  go_wp2_with (first | ((go_at_call 50; apply own_at hO; (repeat (first | (with_reducible exact hO) | (with_reducible apply Own.alloc) | (with_reducible apply Own.drew) | ((with_reducible apply Own.set_at); (focus (show _ ≤ _; omega))))); have hG := hF; clear hF; clear hO; intro hO; refine own_call hO (fun hB => HIN.out _) ?_; clear hO; intro w1 hO; (try simp only [World.size_alloc1, World.size_drew, Nat.reduceAdd] at hO); (try simp only [upd, updI, List.map_cons, List.map_nil, eq_self, if_true, if_false, reduceIte, Nat.add_eq_left, Nat.left_eq_add, Nat.reduceEqDiff, List.set_cons_zero, List.set_cons_succ, hG] at hO); clear hG; have hF := hO; (try simp only [Own, Item.Holds, apartI, CellsAt, Nat.reduceAdd, Nat.zero_add, List.mem_cons, List.not_mem_nil, or_false, forall_eq_or_imp, forall_eq, ne_eq, false_imp_iff, implies_true, and_true] at hF)); clear HIN) | (go_at_call 50; apply own_at hO; (repeat (first | (with_reducible exact hO) | (with_reducible apply Own.alloc) | (with_reducible apply Own.drew) | ((with_reducible apply Own.set_at); (focus (show _ ≤ _; omega))))); have hG := hF; clear hF; clear hO; intro hO; refine own_call hO (fun hB => HIL.out _) ?_; clear hO; intro w1 hO; (try simp only [World.size_alloc1, World.size_drew, Nat.reduceAdd] at hO); (try simp only [upd, updI, List.map_cons, List.map_nil, eq_self, if_true, if_false, reduceIte, Nat.add_eq_left, Nat.left_eq_add, Nat.reduceEqDiff, List.set_cons_zero, List.set_cons_succ, hG] at hO); clear hG; have hF := hO; (try simp only [Own, Item.Holds, apartI, CellsAt, Nat.reduceAdd, Nat.zero_add, List.mem_cons, List.not_mem_nil, or_false, forall_eq_or_imp, forall_eq, ne_eq, false_imp_iff, implies_true, and_true] at hF)))
  clear HIL
  go_loopw [7] (fun t wr => ∃ c : Nat, c ≤ 7 ∧ t = .int .i64 c ∧ Hid (dcZ f m l = ((degL.drop c).findSome? (dgF f m l)).getD (-1)) ∧ Own w.heap.size (Below w.heap.size w) wr []) (fun t _ => 7 - (intOf t).toNat)
  case atStart => exact ⟨0, by omega, rfl, HE, hO⟩
  case round =>
    clear hO hF HE
    obtain ⟨c, hc, rfl, HE, hO⟩ := hrel
    have hF := hO; (try simp only [Own, Item.Holds, apartI, CellsAt, Nat.reduceAdd, Nat.zero_add, List.mem_cons, List.not_mem_nil, or_false, forall_eq_or_imp, forall_eq, ne_eq, false_imp_iff, implies_true, and_true] at hF)
    by_cases he : c = 7
    · subst he
      have HE2 := hid (HE.out.trans rfl)
      go_wp2_with fail
      go_ret
      exact ⟨ret_int HE2.out.symm, hO.base⟩
    · have hcl : c < 7 := by omega
      have hcl2 : (c : Int) ≤ 6 := by omega
      have HC0 := hid (deg_at hcl)
      clear he
      go_wp2_with fail
      go_loopw [8] (fun t wr => ∃ s : Nat, s ≤ 2 ∧ t = .int .i64 s ∧ Hid ((1 ≤ s → fitB l (coL f m c false) = false) ∧ (2 ≤ s → fitB l (coL f m c true) = false)) ∧ Own w.heap.size (Below w.heap.size w) wr []) (fun t _ => 2 - (intOf t).toNat)
      case atStart => exact ⟨0, by omega, rfl, ⟨fun h => by omega, fun h => by omega⟩, hO⟩
      case round =>
        clear hO hF
        obtain ⟨s, hs2, rfl, HS, hO⟩ := hrel
        have hF := hO; (try simp only [Own, Item.Holds, apartI, CellsAt, Nat.reduceAdd, Nat.zero_add, List.mem_cons, List.not_mem_nil, or_false, forall_eq_or_imp, forall_eq, ne_eq, false_imp_iff, implies_true, and_true] at hF)
        by_cases he : s = 2
        · subst he
          have HE2 := hid (HE.out.trans (congrArg (Option.getD · (-1)) (findSome_miss HC0.out (dg_none (HS.out.1 (by omega)) (HS.out.2 (by omega))))))
          go_wp2_with fail
          go_roundw
          case rel => exact ⟨c + 1, by omega, by go_num, HE2.out, hO⟩
          case measure => simp [intOf]; omega
        · have hsl : s < 2 := by omega
          have hsl2 : (s : Int) < 2 := by omega
          obtain ⟨sv, hsv⟩ : ∃ sv : Bool, ((s : Int) == 1) = sv := ⟨_, rfl⟩
          have HSV := hid (show (sv = false → s = 0) ∧ (sv = true → s = 1) by
            constructor
            · rintro rfl; simp at hsv; omega
            · rintro rfl; simp at hsv; omega)
          obtain ⟨T, hT⟩ : ∃ T, coL f m c sv = T := ⟨_, rfl⟩
          obtain ⟨k, hk⟩ : ∃ k, T.length = k := ⟨_, rfl⟩
          have hk4 : k ≤ 4 := by rw [← hk, ← hT]; exact coL_len _ _ _ _
          have HC := hid (show ∀ W, Calls Tryd.prog 23 #[.int .i64 f, .bool m, .int .i64 c, .bool sv] W (RowOut 24 3 k (pcC T) W) from fun W => by
            have := coS_any f c m sv W
            rw [hT, hk] at this
            exact this)
          have HT := hid hT
          have HM := hid hk
          clear he hT hk
          go_wp2_with ((go_at_call 23; apply own_at hO; (repeat (first | (with_reducible exact hO) | (with_reducible apply Own.alloc) | (with_reducible apply Own.drew) | ((with_reducible apply Own.set_at); (focus (show _ ≤ _; omega))))); have hG := hF; clear hF; clear hO; intro hO; refine own_call_row hO (fun hB => HC.out _) ?_; clear hO; intro v w1 hO; (try simp only [World.size_alloc1, World.size_drew, Nat.reduceAdd] at hO); (try simp only [upd, updI, List.map_cons, List.map_nil, eq_self, if_true, if_false, reduceIte, Nat.add_eq_left, Nat.left_eq_add, Nat.reduceEqDiff, List.set_cons_zero, List.set_cons_succ, hG] at hO); clear hG; have hF := hO; (try simp only [Own, Item.Holds, apartI, CellsAt, Nat.reduceAdd, Nat.zero_add, List.mem_cons, List.not_mem_nil, or_false, forall_eq_or_imp, forall_eq, ne_eq, false_imp_iff, implies_true, and_true] at hF)); obtain ⟨A1, c1, hv1⟩ := (SlAt.of_row hO.1.1).form; subst hv1)
          go_loopw [10, 11] (fun o t wr => ∃ j : Nat, j ≤ n ∧ t = .int .i64 j ∧ o = .bool (ok3 l T j) ∧ Own w.heap.size (Below w.heap.size w) wr [.row 24 3 (.slice A1 k c1) k (pcC T)]) (fun _ t _ => n - (intOf t).toNat)
          case atStart => exact ⟨0, by omega, rfl, rfl, hO⟩
          case round =>
            clear hO hF
            obtain ⟨j, hj, rfl, rfl, hO⟩ := hrel
            have hF := hO; (try simp only [Own, Item.Holds, apartI, CellsAt, Nat.reduceAdd, Nat.zero_add, List.mem_cons, List.not_mem_nil, or_false, forall_eq_or_imp, forall_eq, ne_eq, false_imp_iff, implies_true, and_true] at hF)
            by_cases he : j = n
            · subst he
              obtain ⟨B1, hB1⟩ : ∃ b, ok3 l T j = b := ⟨_, rfl⟩
              have HB1 := hid (show (l.all fun x => pvP x && hasB T x) = B1 by rw [← hB1]; exact (ok3_all HN.out).symm)
              rw [hB1]
              clear hB1
              go_wp2_with fail
              go_loopw [10, 12] (fun o t wr => ∃ i : Nat, i ≤ k ∧ t = .int .i64 i ∧ o = .bool (ok2 l T B1 i) ∧ Own w.heap.size (Below w.heap.size w) wr [.row 24 3 (.slice A1 k c1) k (pcC T)]) (fun _ t _ => k - (intOf t).toNat)
              case atStart => exact ⟨0, by omega, rfl, by unfold ok2; simp, hO⟩
              case round =>
                clear hO hF
                obtain ⟨i, hi, rfl, rfl, hO⟩ := hrel
                have hF := hO; (try simp only [Own, Item.Holds, apartI, CellsAt, Nat.reduceAdd, Nat.zero_add, List.mem_cons, List.not_mem_nil, or_false, forall_eq_or_imp, forall_eq, ne_eq, false_imp_iff, implies_true, and_true] at hF)
                by_cases he : i = k
                · subst he
                  obtain ⟨B2, hB2⟩ : ∃ b, ok2 l T B1 i = b := ⟨_, rfl⟩
                  have HOK := hid (show fitB l (coL f m c sv) = B2 by rw [← hB2, ok2_all HM.out, ← HB1.out, HT.out]; rfl)
                  rw [hB2]
                  clear hB2
                  cases B2
                  · have HS2 := hid (show (1 ≤ s + 1 → fitB l (coL f m c false) = false) ∧ (2 ≤ s + 1 → fitB l (coL f m c true) = false) from by
                      cases sv
                      · have := HSV.out.1 rfl
                        exact ⟨fun _ => HOK.out, fun h => by omega⟩
                      · have := HSV.out.2 rfl
                        exact ⟨fun _ => HS.out.1 (by omega), fun _ => HOK.out⟩)
                    go_wp2_with fail
                    go_roundw
                    case rel => exact ⟨s + 1, by omega, by go_num, HS2.out, Own.drop hO⟩
                    case measure => simp [intOf]; omega
                  · have HE2 := hid (HE.out.trans (congrArg (Option.getD · (-1)) (findSome_hit HC0.out (dg_some HOK.out))))
                    go_wp2_with fail
                    go_ret
                    exact ⟨ret_int HE2.out.symm, hO.base⟩
                · have hil : i < k := by omega
                  have hil2 : (i : Int) < k := by omega
                  obtain ⟨t, ht⟩ : ∃ t, T[i]? = some t := ⟨_, List.getElem?_eq_getElem (by have := HM.out; omega)⟩
                  obtain ⟨q, cp, hv1, hq1, hq2⟩ := hO.row_open (by omega)
                  cases hv1
                  clear hq1 hq2
                  have HU := hid (ok2_up (l := l) (b := B1) ht)
                  have e0 := hO.row_cell (pcC_at ht).1
                  have e1 := hO.row_cell (pcC_at ht).2.1
                  have e2 := hO.row_cell (pcC_at ht).2.2
                  obtain ⟨g, hg⟩ : ∃ b, ok2 l T B1 i = b := ⟨_, rfl⟩
                  obtain ⟨d, hd⟩ : ∃ b, hasB l t = b := ⟨_, rfl⟩
                  have HL := hid (fun W (hW : Below w.heap.size w W) => hasS_is HN.out (by omega) hd W (HA.out.below hW))
                  rw [hg, hd] at HU
                  rw [hg]
                  clear he ht hg hd
                  cases g
                  all_goals
                    go_wp2_with (go_at_call 76; apply own_at hO; (repeat (first | (with_reducible exact hO) | (with_reducible apply Own.alloc) | (with_reducible apply Own.drew) | ((with_reducible apply Own.set_at); (focus (show _ ≤ _; omega))))); have hG := hF; clear hF; clear hO; intro hO; refine own_call hO (fun hB => HL.out _ hB) ?_; clear hO; intro w1 hO; (try simp only [World.size_alloc1, World.size_drew, Nat.reduceAdd] at hO); (try simp only [upd, updI, List.map_cons, List.map_nil, eq_self, if_true, if_false, reduceIte, Nat.add_eq_left, Nat.left_eq_add, Nat.reduceEqDiff, List.set_cons_zero, List.set_cons_succ, hG] at hO); clear hG; have hF := hO; (try simp only [Own, Item.Holds, apartI, CellsAt, Nat.reduceAdd, Nat.zero_add, List.mem_cons, List.not_mem_nil, or_false, forall_eq_or_imp, forall_eq, ne_eq, false_imp_iff, implies_true, and_true] at hF))
                    go_roundw
                    case rel => exact ⟨i + 1, by omega, by go_num, by rw [HU.out]; rfl, hO⟩
                    case measure => simp [intOf]; omega
            · have hjl : j < n := by omega
              have hjl2 : (j : Int) < n := by omega
              obtain ⟨z, hz⟩ : ∃ z, l[j]? = some z := ⟨_, List.getElem?_eq_getElem (by have := HN.out; omega)⟩
              obtain ⟨d0, d1, d2⟩ := ptAt (HA.out.below hO.base) hz
              have HX := hid hz
              have HU := hid (ok3_up (t := T) hz)
              obtain ⟨g, hg⟩ : ∃ b, ok3 l T j = b := ⟨_, rfl⟩
              obtain ⟨p, hp⟩ : ∃ b, pvP z = b := ⟨_, rfl⟩
              obtain ⟨d, hd⟩ : ∃ b, hasB T z = b := ⟨_, rfl⟩
              have HV := hid (fun W => pvS_is W (show pvB z.s z.a z.o = p from hp))
              have HL := hid (fun va W (hs : SlAt W va k 3 (pcC T)) => hasS_is HM.out (by omega) hd W hs)
              rw [hg, hp, hd] at HU
              rw [hg]
              clear he hz hg hd hp
              cases g <;> cases p
              all_goals
                go_wp2_with (first | ((go_at_call 49; apply own_at hO; (repeat (first | (with_reducible exact hO) | (with_reducible apply Own.alloc) | (with_reducible apply Own.drew) | ((with_reducible apply Own.set_at); (focus (show _ ≤ _; omega))))); have hG := hF; clear hF; clear hO; intro hO; refine own_call hO (fun hB => HV.out _) ?_; clear hO; intro w1 hO; (try simp only [World.size_alloc1, World.size_drew, Nat.reduceAdd] at hO); (try simp only [upd, updI, List.map_cons, List.map_nil, eq_self, if_true, if_false, reduceIte, Nat.add_eq_left, Nat.left_eq_add, Nat.reduceEqDiff, List.set_cons_zero, List.set_cons_succ, hG] at hO); clear hG; have hF := hO; (try simp only [Own, Item.Holds, apartI, CellsAt, Nat.reduceAdd, Nat.zero_add, List.mem_cons, List.not_mem_nil, or_false, forall_eq_or_imp, forall_eq, ne_eq, false_imp_iff, implies_true, and_true] at hF)); have ⟨e0, e1, e2⟩ := ptAt (HA.out.below hO.base) HX.out) | (go_at_call 76; apply own_at hO; (repeat (first | (with_reducible exact hO) | (with_reducible apply Own.alloc) | (with_reducible apply Own.drew) | ((with_reducible apply Own.set_at); (focus (show _ ≤ _; omega))))); have hG := hF; clear hF; clear hO; intro hO; refine own_callO hO (fun hW => HL.out _ _ (SlAt.of_row hW.1.1)) ?_; clear hO; intro w1 hO; (try simp only [World.size_alloc1, World.size_drew, Nat.reduceAdd] at hO); (try simp only [upd, updI, List.map_cons, List.map_nil, eq_self, if_true, if_false, reduceIte, Nat.add_eq_left, Nat.left_eq_add, Nat.reduceEqDiff, List.set_cons_zero, List.set_cons_succ, hG] at hO); clear hG; have hF := hO; (try simp only [Own, Item.Holds, apartI, CellsAt, Nat.reduceAdd, Nat.zero_add, List.mem_cons, List.not_mem_nil, or_false, forall_eq_or_imp, forall_eq, ne_eq, false_imp_iff, implies_true, and_true] at hF)))
                go_roundw
                case rel => exact ⟨j + 1, by omega, by go_num, by rw [HU.out]; rfl, hO⟩
                case measure => simp [intOf]; omega

theorem dcS_out (f : Int) (m : Bool) (va : Value) (l : List Pt) (n : Nat) (w : World) (hnl : l.length = n) (hs : SlAt w va n 3 (pcC l)) (h : (inB f (-7) 7 && inB (n : Int) 1 12) = false) :
    Calls Tryd.prog 28 #[.int .i64 f, .bool m, va] w fun e w' => e = .returned (.int .i64 (dcZ f m l)) ∧ Below w.heap.size w w' := by
  have hO := Own.start w
  have hF := True.intro
  obtain ⟨A, cA, rfl, nb, hA⟩ := hs.open
  have HE := hid (show dcZ f m l = -1 by
    unfold dcZ
    rw [if_neg]
    rw [hnl]
    intro hc
    rw [← Bool.not_eq_true] at h
    apply h
    simp only [Bool.and_eq_true, decide_eq_true_eq] at hc ⊢
    exact ⟨hc.1, inB_iff.2 (by omega)⟩)
  clear hs hA
  cases h1 : inB f (-7) 7
  · have HIN := hid (fun W => in_is (n := f) W h1)
    clear h h1
    go_enter Tryd.func28, Tryd.ntmps28
    go_wp2_with ((go_at_call 50; apply own_at hO; (repeat (first | (with_reducible exact hO) | (with_reducible apply Own.alloc) | (with_reducible apply Own.drew) | ((with_reducible apply Own.set_at); (focus (show _ ≤ _; omega))))); have hG := hF; clear hF; clear hO; intro hO; refine own_call hO (fun hB => HIN.out _) ?_; clear hO; intro w1 hO; (try simp only [World.size_alloc1, World.size_drew, Nat.reduceAdd] at hO); (try simp only [upd, updI, List.map_cons, List.map_nil, eq_self, if_true, if_false, reduceIte, Nat.add_eq_left, Nat.left_eq_add, Nat.reduceEqDiff, List.set_cons_zero, List.set_cons_succ, hG] at hO); clear hG; have hF := hO; (try simp only [Own, Item.Holds, apartI, CellsAt, Nat.reduceAdd, Nat.zero_add, List.mem_cons, List.not_mem_nil, or_false, forall_eq_or_imp, forall_eq, ne_eq, false_imp_iff, implies_true, and_true] at hF)); clear HIN)
    go_ret
    exact ⟨ret_int HE.out.symm, hO.base⟩
  · rw [h1, Bool.true_and] at h
    have HIN := hid (fun W => in_is (n := f) W h1)
    have HIL := hid (fun W => in_is (n := (n : Int)) W h)
    clear h h1
    go_enter Tryd.func28, Tryd.ntmps28
    go_wp2_with (first | ((go_at_call 50; apply own_at hO; (repeat (first | (with_reducible exact hO) | (with_reducible apply Own.alloc) | (with_reducible apply Own.drew) | ((with_reducible apply Own.set_at); (focus (show _ ≤ _; omega))))); have hG := hF; clear hF; clear hO; intro hO; refine own_call hO (fun hB => HIN.out _) ?_; clear hO; intro w1 hO; (try simp only [World.size_alloc1, World.size_drew, Nat.reduceAdd] at hO); (try simp only [upd, updI, List.map_cons, List.map_nil, eq_self, if_true, if_false, reduceIte, Nat.add_eq_left, Nat.left_eq_add, Nat.reduceEqDiff, List.set_cons_zero, List.set_cons_succ, hG] at hO); clear hG; have hF := hO; (try simp only [Own, Item.Holds, apartI, CellsAt, Nat.reduceAdd, Nat.zero_add, List.mem_cons, List.not_mem_nil, or_false, forall_eq_or_imp, forall_eq, ne_eq, false_imp_iff, implies_true, and_true] at hF)); clear HIN) | (go_at_call 50; apply own_at hO; (repeat (first | (with_reducible exact hO) | (with_reducible apply Own.alloc) | (with_reducible apply Own.drew) | ((with_reducible apply Own.set_at); (focus (show _ ≤ _; omega))))); have hG := hF; clear hF; clear hO; intro hO; refine own_call hO (fun hB => HIL.out _) ?_; clear hO; intro w1 hO; (try simp only [World.size_alloc1, World.size_drew, Nat.reduceAdd] at hO); (try simp only [upd, updI, List.map_cons, List.map_nil, eq_self, if_true, if_false, reduceIte, Nat.add_eq_left, Nat.left_eq_add, Nat.reduceEqDiff, List.set_cons_zero, List.set_cons_succ, hG] at hO); clear hG; have hF := hO; (try simp only [Own, Item.Holds, apartI, CellsAt, Nat.reduceAdd, Nat.zero_add, List.mem_cons, List.not_mem_nil, or_false, forall_eq_or_imp, forall_eq, ne_eq, false_imp_iff, implies_true, and_true] at hF)))
    go_ret
    exact ⟨ret_int HE.out.symm, hO.base⟩
theorem dcS_any (f : Int) (m : Bool) (va : Value) (l : List Pt) (w : World) (hs : SlAt w va l.length 3 (pcC l)) :
    Calls Tryd.prog 28 #[.int .i64 f, .bool m, va] w fun e w' => e = .returned (.int .i64 (dcZ f m l)) ∧ Below w.heap.size w w' := by
  obtain ⟨n, hn⟩ : ∃ n, l.length = n := ⟨_, rfl⟩
  rw [hn] at hs
  cases h : inB f (-7) 7 && inB (n : Int) 1 12
  · exact dcS_out f m va l n w hn hs h
  · rw [Bool.and_eq_true] at h
    have := inB_iff.1 h.2
    exact dcS_in f m va l n w hn hs (by omega) (by omega) h.1

/- What the functions of chapter 11 answer, as contracts. -/
def CCo (g : FuncId) (w : World) : Prop := ∀ (f d : Int) (m sv : Bool) (W : World), Below w.heap.size w W → r64 f → r64 d →
  Calls Tryd.prog g #[.int .i64 f, .bool m, .int .i64 d, .bool sv] W (RowOut 24 3 (coL f m d sv).length (pcC (coL f m d sv)) W)
def CDc (g : FuncId) (w : World) : Prop := ∀ (f : Int) (m : Bool) (va : Value) (l : List Pt) (W : World), Below w.heap.size w W → r64 f → SlAt W va l.length 3 (pcC l) → l.length ≤ 1048576 → (∀ x ∈ l, p64s x) →
  Calls Tryd.prog g #[.int .i64 f, .bool m, va] W fun e w' => e = .returned (.int .i64 (dcZ f m l)) ∧ Below W.heap.size W w'
theorem CCo.to {g : FuncId} {w wd : World} (h : CCo g w) (hb : Below w.heap.size w wd) : CCo g wd := fun f d m sv W hW => h f d m sv W (btr hb hW)
theorem CDc.to {g : FuncId} {w wd : World} (h : CDc g w) (hb : Below w.heap.size w wd) : CDc g wd := fun f m va l W hW => h f m va l W (btr hb hW)
theorem CCo.is {g : FuncId} {w : World} (h : CCo g w) {f d : Int} {m sv : Bool} {k : Nat} {t : List Pt} (hf : r64 f) (hd : r64 d) (ht : coL f m d sv = t) (hk : t.length = k) (W : World) (hW : Below w.heap.size w W) :
    Calls Tryd.prog g #[.int .i64 f, .bool m, .int .i64 d, .bool sv] W (RowOut 24 3 k (pcC t) W) := by
  subst ht hk; exact h f d m sv W hW hf hd
theorem CDc.is {g : FuncId} {w : World} (h : CDc g w) {f : Int} {m : Bool} {l : List Pt} {n : Nat} {z : Int} (hf : r64 f) (hm : l.length = n) (hn : n ≤ 1048576) (hr : ∀ x ∈ l, p64s x) (hz : dcZ f m l = z) (va : Value) (W : World) (hW : Below w.heap.size w W) (hs : SlAt W va n 3 (pcC l)) :
    Calls Tryd.prog g #[.int .i64 f, .bool m, va] W fun e w' => e = .returned (.int .i64 z) ∧ Below W.heap.size W w' := by
  subst hm hz; exact h f m va l W hW hf hs hn hr

theorem coS_C (w : World) : CCo 23 w := fun f d m sv W _ _ _ => coS_any f d m sv W

theorem dcS_C (w : World) : CDc 28 w := fun f m va l W _ _ hs _ _ => dcS_any f m va l W hs
end Go.Proofs.YtjfmbklgkmkgjaaDoor
