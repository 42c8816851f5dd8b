/- Chapter 2 in the program: validity, quality, ways back and rests. -/
import Derived.Test.YtikkcehjfcfcdaaDoorWalksKey
import Derived.Test.YtikkcehjfcfcdaaDoorPure1
import Derived.Test.YtikkcehjfcfcdaaDoorRegion
import Derived.Test.YtikkcehjfcfcdaaDoorWalks2S
namespace Go.Proofs.YtikkcehjfcfcdaaDoor
set_option linter.unusedSimpArgs false
set_option linter.unusedVariables false
set_option maxRecDepth 8000
open Go.RowKit

/-- a number of 64 bits. -/
def r64 (x : Int) : Prop := -9223372036854775808 ≤ x ∧ x ≤ 9223372036854775807
/-- its sign changed, as the machine does it. -/
def negW (x : Int) : Int := if x = -9223372036854775808 then x else -x
theorem negW_of {x : Int} (h : -9223372036854775807 ≤ x) : negW x = -x := by unfold negW; rw [if_neg (by omega)]
theorem wrap_neg {x : Int} (h : r64 x) : IntKind.i64.wrap (-x) = negW x := by
  unfold r64 at h
  unfold negW
  split
  · subst_vars; rfl
  · exact IntWalk.i64_in _ (by omega)

set_option maxHeartbeats 1000000 in
theorem turned_any (st ha : Int) (w : World) (h1 : r64 st) (h2 : r64 ha) :
    Calls Tryd.prog 56 #[.agg #[.int .i64 st, .int .i64 ha]] w fun e w' => e = .returned (.agg #[.int .i64 (negW st), .int .i64 (negW ha)]) ∧ Below w.heap.size w w' := by
  have e1 := wrap_neg h1
  have e2 := wrap_neg h2
  clear h1 h2
  go_enter Tryd.func56, Tryd.ntmps56
  go_wp2
  refine bodyPost_ret (v := .agg #[.int .i64 (negW st), .int .i64 (negW ha)]) (by simp [results, Tryd.results56, go_sem]) rfl ⟨rfl, below2 _ _⟩

def downB (st ha : Int) : Bool := decide (st < 0) || (st == 0 && decide (ha < 0))

set_option maxHeartbeats 1000000 in
theorem isDown_any (st ha : Int) (w : World) :
    Calls Tryd.prog 55 #[.agg #[.int .i64 st, .int .i64 ha]] w fun e w' => e = .returned (.bool (downB st ha)) ∧ Below w.heap.size w w' := by
  unfold downB
  by_cases h1 : st < 0
  · go_enter Tryd.func55, Tryd.ntmps55
    go_wp2
    all_goals go_ret
    all_goals exact ⟨ret_bool (by simp [*]), below1 _⟩
  · by_cases h2 : (st == 0) = true
    · go_enter Tryd.func55, Tryd.ntmps55
      go_wp2
      all_goals go_ret
      all_goals exact ⟨ret_bool (by simp_all), below1 _⟩
    · rw [Bool.not_eq_true] at h2
      go_enter Tryd.func55, Tryd.ntmps55
      go_wp2
      all_goals go_ret
      all_goals exact ⟨ret_bool (by simp_all), below1 _⟩

def upS (st ha : Int) : Int := if downB st ha then negW st else st
def upH (st ha : Int) : Int := if downB st ha then negW ha else ha

set_option maxHeartbeats 1000000 in
theorem upwards_any (st ha : Int) (w : World) (h1 : r64 st) (h2 : r64 ha) :
    Calls Tryd.prog 53 #[.agg #[.int .i64 st, .int .i64 ha]] w fun e w' => e = .returned (.agg #[.int .i64 (upS st ha), .int .i64 (upH st ha)]) ∧ Below w.heap.size w w' := by
  cases hd : downB st ha
  · have HE := hid (show upS st ha = st ∧ upH st ha = ha by simp [upS, upH, hd])
    have hO := Own.start w
    have hF := True.intro
    go_enter Tryd.func53, Tryd.ntmps53
    go_wp2_with (go_at_call 55; apply own_at hO; (repeat (first | (with_reducible exact hO) | (with_reducible apply Own.alloc) | (with_reducible apply Own.drew) | ((with_reducible apply Own.set_at); (focus (show _ ≤ _; omega))))); have hG := hF; clear hF; clear hO; intro hO; refine own_call hO (fun hB => isDown_any _ _ _) ?_; clear hO; intro w1 hO; (try simp only [World.size_alloc1, World.size_drew, Nat.reduceAdd] at hO); (try simp only [upd, updI, List.map_cons, List.map_nil, eq_self, if_true, if_false, reduceIte, Nat.add_eq_left, Nat.left_eq_add, Nat.reduceEqDiff, List.set_cons_zero, List.set_cons_succ, hG] at hO); clear hG; have hF := hO; (try simp only [Own, Item.Holds, apartI, CellsAt, Nat.reduceAdd, Nat.zero_add, List.mem_cons, List.not_mem_nil, or_false, forall_eq_or_imp, forall_eq, ne_eq, false_imp_iff, implies_true, and_true] at hF))
    rw [HE.out.1, HE.out.2]
    apply own_end hO
    (repeat (first | (with_reducible exact hO) | (with_reducible apply Own.alloc) | (with_reducible apply Own.drew) | ((with_reducible apply Own.set_at); (focus (show _ ≤ _; omega)))))
    have hG := hF; clear hF; clear hO; intro hO
    refine own_ret (v := .agg #[.int .i64 st, .int .i64 ha]) hO ?_ rfl (fun hO => ⟨rfl, hO.base⟩)
    clear hO; intro w1 hO
    (try simp only [World.size_alloc1, World.size_drew, Nat.reduceAdd] at hO); (try simp only [upd, updI, List.map_cons, List.map_nil, eq_self, if_true, if_false, reduceIte, Nat.add_eq_left, Nat.left_eq_add, Nat.reduceEqDiff, List.set_cons_zero, List.set_cons_succ, hG] at hO); clear hG
    have hF := hO; (try simp only [Own, Item.Holds, apartI, CellsAt, Nat.reduceAdd, Nat.zero_add, List.mem_cons, List.not_mem_nil, or_false, forall_eq_or_imp, forall_eq, ne_eq, false_imp_iff, implies_true, and_true] at hF)
    simp [results, Tryd.results53, go_sem, hF]
  · have HE := hid (show upS st ha = negW st ∧ upH st ha = negW ha by simp [upS, upH, hd])
    have hO := Own.start w
    have hF := True.intro
    go_enter Tryd.func53, Tryd.ntmps53
    go_wp2_with (first | (go_at_call 55; apply own_at hO; (repeat (first | (with_reducible exact hO) | (with_reducible apply Own.alloc) | (with_reducible apply Own.drew) | ((with_reducible apply Own.set_at); (focus (show _ ≤ _; omega))))); have hG := hF; clear hF; clear hO; intro hO; refine own_call hO (fun hB => isDown_any _ _ _) ?_; clear hO; intro w1 hO; (try simp only [World.size_alloc1, World.size_drew, Nat.reduceAdd] at hO); (try simp only [upd, updI, List.map_cons, List.map_nil, eq_self, if_true, if_false, reduceIte, Nat.add_eq_left, Nat.left_eq_add, Nat.reduceEqDiff, List.set_cons_zero, List.set_cons_succ, hG] at hO); clear hG; have hF := hO; (try simp only [Own, Item.Holds, apartI, CellsAt, Nat.reduceAdd, Nat.zero_add, List.mem_cons, List.not_mem_nil, or_false, forall_eq_or_imp, forall_eq, ne_eq, false_imp_iff, implies_true, and_true] at hF)) | (go_at_call 56; apply own_at hO; (repeat (first | (with_reducible exact hO) | (with_reducible apply Own.alloc) | (with_reducible apply Own.drew) | ((with_reducible apply Own.set_at); (focus (show _ ≤ _; omega))))); have hG := hF; clear hF; clear hO; intro hO; refine own_call hO (fun hB => turned_any _ _ _ h1 h2) ?_; clear hO; intro w1 hO; (try simp only [World.size_alloc1, World.size_drew, Nat.reduceAdd] at hO); (try simp only [upd, updI, List.map_cons, List.map_nil, eq_self, if_true, if_false, reduceIte, Nat.add_eq_left, Nat.left_eq_add, Nat.reduceEqDiff, List.set_cons_zero, List.set_cons_succ, hG] at hO); clear hG; have hF := hO; (try simp only [Own, Item.Holds, apartI, CellsAt, Nat.reduceAdd, Nat.zero_add, List.mem_cons, List.not_mem_nil, or_false, forall_eq_or_imp, forall_eq, ne_eq, false_imp_iff, implies_true, and_true] at hF)))
    rw [HE.out.1, HE.out.2]
    apply own_end hO
    (repeat (first | (with_reducible exact hO) | (with_reducible apply Own.alloc) | (with_reducible apply Own.drew) | ((with_reducible apply Own.set_at); (focus (show _ ≤ _; omega)))))
    have hG := hF; clear hF; clear hO; intro hO
    refine own_ret (v := .agg #[.int .i64 (negW st), .int .i64 (negW ha)]) hO ?_ rfl (fun hO => ⟨rfl, hO.base⟩)
    clear hO; intro w1 hO
    (try simp only [World.size_alloc1, World.size_drew, Nat.reduceAdd] at hO); (try simp only [upd, updI, List.map_cons, List.map_nil, eq_self, if_true, if_false, reduceIte, Nat.add_eq_left, Nat.left_eq_add, Nat.reduceEqDiff, List.set_cons_zero, List.set_cons_succ, hG] at hO); clear hG
    have hF := hO; (try simp only [Own, Item.Holds, apartI, CellsAt, Nat.reduceAdd, Nat.zero_add, List.mem_cons, List.not_mem_nil, or_false, forall_eq_or_imp, forall_eq, ne_eq, false_imp_iff, implies_true, and_true] at hF)
    simp [results, Tryd.results53, go_sem, hF]

/-- what validity says of a way up. -/
theorem ivB_of {st ha : Int} (h : r64 ha) (h1 : -21 ≤ st) (h2 : st ≤ 21) : ivB st ha = (decide (natZ (upS st ha) - 3 ≤ upH st ha) && decide (upH st ha ≤ natZ (upS st ha) + 3)) := by
  unfold r64 at h
  rw [Bool.eq_iff_iff, ivB_iff]
  simp only [Bool.and_eq_true, decide_eq_true_eq]
  unfold upS upH quZ downB
  have n1 := @natZ_bd st
  have n2 := @natZ_bd (-st)
  by_cases hd : st < 0 ∨ (st = 0 ∧ ha < 0)
  · have e : (decide (st < 0) || (st == 0 && decide (ha < 0))) = true := by simp; omega
    rw [if_pos hd, if_pos e, if_pos e, negW_of (by omega)]
    unfold negW
    by_cases hm : ha = -9223372036854775808
    · rw [if_pos hm]; have := n2 (by omega); omega
    · rw [if_neg hm]; have := n2 (by omega); omega
  · have e : ¬ (decide (st < 0) || (st == 0 && decide (ha < 0))) = true := by simp; omega
    rw [if_neg hd, if_neg e, if_neg e]
    have := n1 (by omega); omega

theorem upS_bd {st ha : Int} (h1 : -21 ≤ st) (h2 : st ≤ 21) : 0 ≤ upS st ha ∧ upS st ha ≤ 21 := by
  unfold upS downB
  by_cases hd : st < 0 ∨ (st = 0 ∧ ha < 0)
  · have e : (decide (st < 0) || (st == 0 && decide (ha < 0))) = true := by simp; omega
    rw [if_pos e, negW_of (by omega)]; omega
  · have e : ¬ (decide (st < 0) || (st == 0 && decide (ha < 0))) = true := by simp; omega
    rw [if_neg e]; omega

set_option maxHeartbeats 1000000 in
theorem ivI_any (st ha : Int) (w : World) (ht : TabH w) (r1 : r64 st) (r2 : r64 ha) :
    Calls Tryd.prog 48 #[.agg #[.int .i64 st, .int .i64 ha]] w fun e w' => e = .returned (.bool (ivB st ha)) ∧ Below w.heap.size w w' := by
  have hO := Own.start w
  have hF := True.intro
  by_cases h1 : st < -21
  · have HE := hid (show ivB st ha = false by rw [← Bool.not_eq_true, ivB_iff]; omega)
    clear r1 r2
    go_enter Tryd.func48, Tryd.ntmps48
    go_wp2
    go_ret
    exact ⟨ret_bool HE.out.symm, below1 _⟩
  by_cases h2 : 21 < st
  · have HE := hid (show ivB st ha = false by rw [← Bool.not_eq_true, ivB_iff]; omega)
    clear r1 r2
    go_enter Tryd.func48, Tryd.ntmps48
    go_wp2
    go_ret
    exact ⟨ret_bool HE.out.symm, below1 _⟩
  have HE := hid (ivB_of (st := st) r2 (by omega) (by omega))
  obtain ⟨u0, u1⟩ := upS_bd (st := st) (ha := ha) (by omega) (by omega)
  have nb := natZ_bd u0
  have e1 : IntKind.i64.wrap (natZ (upS st ha) - 3) = natZ (upS st ha) - 3 := IntWalk.i64_in _ (by omega)
  have e2 : IntKind.i64.wrap (natZ (upS st ha) + 3) = natZ (upS st ha) + 3 := IntWalk.i64_in _ (by omega)
  go_enter Tryd.func48, Tryd.ntmps48
  go_wp2_with (first | (go_at_call 53; apply own_at hO; (repeat (first | (with_reducible exact hO) | (with_reducible apply Own.alloc) | (with_reducible apply Own.drew) | ((with_reducible apply Own.set_at); (focus (show _ ≤ _; omega))))); have hG := hF; clear hF; clear hO; intro hO; refine own_call hO (fun hB => upwards_any _ _ _ r1 r2) ?_; clear hO; intro w1 hO; (try simp only [World.size_alloc1, World.size_drew, Nat.reduceAdd] at hO); (try simp only [upd, updI, List.map_cons, List.map_nil, eq_self, if_true, if_false, reduceIte, Nat.add_eq_left, Nat.left_eq_add, Nat.reduceEqDiff, List.set_cons_zero, List.set_cons_succ, hG] at hO); clear hG; have hF := hO; (try simp only [Own, Item.Holds, apartI, CellsAt, Nat.reduceAdd, Nat.zero_add, List.mem_cons, List.not_mem_nil, or_false, forall_eq_or_imp, forall_eq, ne_eq, false_imp_iff, implies_true, and_true] at hF)) | (go_at_call 44; apply own_at hO; (repeat (first | (with_reducible exact hO) | (with_reducible apply Own.alloc) | (with_reducible apply Own.drew) | ((with_reducible apply Own.set_at); (focus (show _ ≤ _; omega))))); have hG := hF; clear hF; clear hO; intro hO; refine own_call hO (fun hB => (plainH_any _ _ u0 (by omega) (ht.below hB)).mono fun _ _ ⟨he, hw⟩ => ⟨he, hw ▸ Below.refl _ _⟩) ?_; clear hO; intro w1 hO; (try simp only [World.size_alloc1, World.size_drew, Nat.reduceAdd] at hO); (try simp only [upd, updI, List.map_cons, List.map_nil, eq_self, if_true, if_false, reduceIte, Nat.add_eq_left, Nat.left_eq_add, Nat.reduceEqDiff, List.set_cons_zero, List.set_cons_succ, hG] at hO); clear hG; have hF := hO; (try simp only [Own, Item.Holds, apartI, CellsAt, Nat.reduceAdd, Nat.zero_add, List.mem_cons, List.not_mem_nil, or_false, forall_eq_or_imp, forall_eq, ne_eq, false_imp_iff, implies_true, and_true] at hF)))
  all_goals go_ret
  all_goals exact ⟨ret_bool (by rw [HE.out]; simp_all; try omega), (Own.base (by (repeat (first | (with_reducible exact hO) | (with_reducible apply Own.alloc) | (with_reducible apply Own.drew) | ((with_reducible apply Own.set_at); (focus (show _ ≤ _; omega)))))))⟩

/- Chapter 2 in the program: the functions that the document names. -/
open Go.RowKit

theorem quZ_of {st ha : Int} (h : -9223372036854775807 ≤ ha) (h1 : -21 ≤ st) : quZ st ha = upH st ha - natZ (upS st ha) := by
  unfold quZ upS upH downB
  by_cases hd : st < 0 ∨ (st = 0 ∧ ha < 0)
  · have e : (decide (st < 0) || (st == 0 && decide (ha < 0))) = true := by simp; omega
    rw [if_pos hd, if_pos e, if_pos e, negW_of h, negW_of (by omega)]
  · have e : ¬ (decide (st < 0) || (st == 0 && decide (ha < 0))) = true := by simp; omega
    rw [if_neg hd, if_neg e, if_neg e]
theorem upH_bd {st ha : Int} (h1 : -60 ≤ ha) (h2 : ha ≤ 60) : -60 ≤ upH st ha ∧ upH st ha ≤ 60 := by
  unfold upH
  split
  · rw [negW_of (by omega)]; omega
  · omega
theorem plainB_any (n : Int) (w : World) (h0 : 0 ≤ n) (h1 : n ≤ 1000000) (ht : TabH w) :
    Calls Tryd.prog 44 #[.int .i64 n] w fun e w' => e = .returned (.int .i64 (natZ n)) ∧ Below w.heap.size w w' :=
  (plainH_any n w h0 h1 ht).mono fun _ _ ⟨he, hw⟩ => ⟨he, hw ▸ Below.refl _ _⟩