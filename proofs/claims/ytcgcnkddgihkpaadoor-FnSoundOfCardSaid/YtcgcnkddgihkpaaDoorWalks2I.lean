/- Chapter 2 in the program: validity, quality, ways back and rests. -/
import Derived.Test.YtcgcnkddgihkpaaDoorWalks1
import Derived.Test.YtcgcnkddgihkpaaDoorPure1
import Derived.Test.YtcgcnkddgihkpaaDoorOwn
import Derived.Test.YtcgcnkddgihkpaaDoorWalks2S
import Derived.Test.YtcgcnkddgihkpaaDoorRegionD
namespace Go.Proofs.YtcgcnkddgihkpaaDoor
set_option linter.unusedSimpArgs false
set_option linter.unusedVariables false
set_option maxRecDepth 8000
open Go.RowKit

/-- its sign changed, as the machine does it. -/
def negW (x : Int) : Int := if x = -9223372036854775808 then x else -x
theorem negW_of {x : Int} (h : -9223372036854775807 ≤ x) : negW x = -x := by unfold negW; rw [if_neg (by omega)]
theorem wrap_neg {x : Int} (h : r64 x) : IntKind.i64.wrap (-x) = negW x := by
  unfold r64 at h
  unfold negW
  split
  · subst_vars; rfl
  · exact IntWalk.i64_in _ (by omega)

set_option maxHeartbeats 1000000 in
theorem turned_any (st ha : Int) (w : World) (h1 : r64 st) (h2 : r64 ha) :
    Calls Tryd.prog 71 #[.agg #[.int .i64 st, .int .i64 ha]] w fun e w' => e = .returned (.agg #[.int .i64 (negW st), .int .i64 (negW ha)]) ∧ Below w.heap.size w w' := by
  have e1 := wrap_neg h1
  have e2 := wrap_neg h2
  clear h1 h2
  go_enter Tryd.func71, Tryd.ntmps71
  go_wp2
  refine bodyPost_ret (v := .agg #[.int .i64 (negW st), .int .i64 (negW ha)]) (by simp [results, Tryd.results71, go_sem]) rfl ⟨rfl, below2 _ _⟩

def downB (st ha : Int) : Bool := decide (st < 0) || (st == 0 && decide (ha < 0))

set_option maxHeartbeats 1000000 in
theorem isDown_any (st ha : Int) (w : World) :
    Calls Tryd.prog 96 #[.agg #[.int .i64 st, .int .i64 ha]] w fun e w' => e = .returned (.bool (downB st ha)) ∧ Below w.heap.size w w' := by
  unfold downB
  by_cases h1 : st < 0
  · go_enter Tryd.func96, Tryd.ntmps96
    go_wp2
    all_goals go_ret
    all_goals exact ⟨ret_bool (by simp [*]), below1 _⟩
  · by_cases h2 : (st == 0) = true
    · go_enter Tryd.func96, Tryd.ntmps96
      go_wp2
      all_goals go_ret
      all_goals exact ⟨ret_bool (by simp_all), below1 _⟩
    · rw [Bool.not_eq_true] at h2
      go_enter Tryd.func96, Tryd.ntmps96
      go_wp2
      all_goals go_ret
      all_goals exact ⟨ret_bool (by simp_all), below1 _⟩

def upS (st ha : Int) : Int := if downB st ha then negW st else st
def upH (st ha : Int) : Int := if downB st ha then negW ha else ha

set_option maxHeartbeats 1000000 in
theorem upwards_any (st ha : Int) (w : World) (h1 : r64 st) (h2 : r64 ha) :
    Calls Tryd.prog 82 #[.agg #[.int .i64 st, .int .i64 ha]] w fun e w' => e = .returned (.agg #[.int .i64 (upS st ha), .int .i64 (upH st ha)]) ∧ Below w.heap.size w w' := by
  cases hd : downB st ha
  · have HE := hid (show upS st ha = st ∧ upH st ha = ha by simp [upS, upH, hd])
    have hO := Own.start w
    have hF := True.intro
    go_enter Tryd.func82, Tryd.ntmps82
    go_wp2_with (go_at_call 96; apply own_at hO; (repeat (first | (with_reducible exact hO) | (with_reducible apply Own.alloc) | (with_reducible apply Own.drew) | ((with_reducible apply Own.set_at); (focus (show _ ≤ _; omega))))); have hG := hF; clear hF; clear hO; intro hO; refine own_call hO (fun hB => isDown_any _ _ _) ?_; clear hO; intro w1 hO; (try simp only [World.size_alloc1, World.size_drew, Nat.reduceAdd] at hO); (try simp only [upd, updI, List.map_cons, List.map_nil, eq_self, if_true, if_false, reduceIte, Nat.add_eq_left, Nat.left_eq_add, Nat.reduceEqDiff, List.set_cons_zero, List.set_cons_succ, hG] at hO); clear hG; have hF := hO; (try simp only [Own, Item.Holds, apartI, CellsAt, Nat.reduceAdd, Nat.zero_add, List.mem_cons, List.not_mem_nil, or_false, forall_eq_or_imp, forall_eq, ne_eq, false_imp_iff, implies_true, and_true] at hF))
    rw [HE.out.1, HE.out.2]
    apply own_end hO
    (repeat (first | (with_reducible exact hO) | (with_reducible apply Own.alloc) | (with_reducible apply Own.drew) | ((with_reducible apply Own.set_at); (focus (show _ ≤ _; omega)))))
    have hG := hF; clear hF; clear hO; intro hO
    refine own_ret (v := .agg #[.int .i64 st, .int .i64 ha]) hO ?_ rfl (fun hO => ⟨rfl, hO.base⟩)
    clear hO; intro w1 hO
    (try simp only [World.size_alloc1, World.size_drew, Nat.reduceAdd] at hO); (try simp only [upd, updI, List.map_cons, List.map_nil, eq_self, if_true, if_false, reduceIte, Nat.add_eq_left, Nat.left_eq_add, Nat.reduceEqDiff, List.set_cons_zero, List.set_cons_succ, hG] at hO); clear hG
    have hF := hO; (try simp only [Own, Item.Holds, apartI, CellsAt, Nat.reduceAdd, Nat.zero_add, List.mem_cons, List.not_mem_nil, or_false, forall_eq_or_imp, forall_eq, ne_eq, false_imp_iff, implies_true, and_true] at hF)
    simp [results, Tryd.results82, go_sem, hF]
  · have HE := hid (show upS st ha = negW st ∧ upH st ha = negW ha by simp [upS, upH, hd])
    have hO := Own.start w
    have hF := True.intro
    go_enter Tryd.func82, Tryd.ntmps82
    go_wp2_with (first | (go_at_call 96; apply own_at hO; (repeat (first | (with_reducible exact hO) | (with_reducible apply Own.alloc) | (with_reducible apply Own.drew) | ((with_reducible apply Own.set_at); (focus (show _ ≤ _; omega))))); have hG := hF; clear hF; clear hO; intro hO; refine own_call hO (fun hB => isDown_any _ _ _) ?_; clear hO; intro w1 hO; (try simp only [World.size_alloc1, World.size_drew, Nat.reduceAdd] at hO); (try simp only [upd, updI, List.map_cons, List.map_nil, eq_self, if_true, if_false, reduceIte, Nat.add_eq_left, Nat.left_eq_add, Nat.reduceEqDiff, List.set_cons_zero, List.set_cons_succ, hG] at hO); clear hG; have hF := hO; (try simp only [Own, Item.Holds, apartI, CellsAt, Nat.reduceAdd, Nat.zero_add, List.mem_cons, List.not_mem_nil, or_false, forall_eq_or_imp, forall_eq, ne_eq, false_imp_iff, implies_true, and_true] at hF)) | (go_at_call 71; apply own_at hO; (repeat (first | (with_reducible exact hO) | (with_reducible apply Own.alloc) | (with_reducible apply Own.drew) | ((with_reducible apply Own.set_at); (focus (show _ ≤ _; omega))))); have hG := hF; clear hF; clear hO; intro hO; refine own_call hO (fun hB => turned_any _ _ _ h1 h2) ?_; clear hO; intro w1 hO; (try simp only [World.size_alloc1, World.size_drew, Nat.reduceAdd] at hO); (try simp only [upd, updI, List.map_cons, List.map_nil, eq_self, if_true, if_false, reduceIte, Nat.add_eq_left, Nat.left_eq_add, Nat.reduceEqDiff, List.set_cons_zero, List.set_cons_succ, hG] at hO); clear hG; have hF := hO; (try simp only [Own, Item.Holds, apartI, CellsAt, Nat.reduceAdd, Nat.zero_add, List.mem_cons, List.not_mem_nil, or_false, forall_eq_or_imp, forall_eq, ne_eq, false_imp_iff, implies_true, and_true] at hF)))
    rw [HE.out.1, HE.out.2]
    apply own_end hO
    (repeat (first | (with_reducible exact hO) | (with_reducible apply Own.alloc) | (with_reducible apply Own.drew) | ((with_reducible apply Own.set_at); (focus (show _ ≤ _; omega)))))
    have hG := hF; clear hF; clear hO; intro hO
    refine own_ret (v := .agg #[.int .i64 (negW st), .int .i64 (negW ha)]) hO ?_ rfl (fun hO => ⟨rfl, hO.base⟩)
    clear hO; intro w1 hO
    (try simp only [World.size_alloc1, World.size_drew, Nat.reduceAdd] at hO); (try simp only [upd, updI, List.map_cons, List.map_nil, eq_self, if_true, if_false, reduceIte, Nat.add_eq_left, Nat.left_eq_add, Nat.reduceEqDiff, List.set_cons_zero, List.set_cons_succ, hG] at hO); clear hG
    have hF := hO; (try simp only [Own, Item.Holds, apartI, CellsAt, Nat.reduceAdd, Nat.zero_add, List.mem_cons, List.not_mem_nil, or_false, forall_eq_or_imp, forall_eq, ne_eq, false_imp_iff, implies_true, and_true] at hF)
    simp [results, Tryd.results82, go_sem, hF]

/-- what validity says of a way up. -/
theorem ivB_of {st ha : Int} (h : r64 ha) (h1 : -21 ≤ st) (h2 : st ≤ 21) : ivB st ha = (decide (natZ (upS st ha) - 3 ≤ upH st ha) && decide (upH st ha ≤ natZ (upS st ha) + 3)) := by
  unfold r64 at h
  rw [Bool.eq_iff_iff, ivB_iff]
  simp only [Bool.and_eq_true, decide_eq_true_eq]
  unfold upS upH quZ downB
  have n1 := @natZ_bd st
  have n2 := @natZ_bd (-st)
  by_cases hd : st < 0 ∨ (st = 0 ∧ ha < 0)
  · have e : (decide (st < 0) || (st == 0 && decide (ha < 0))) = true := by simp; omega
    rw [if_pos hd, if_pos e, if_pos e, negW_of (by omega)]
    unfold negW
    by_cases hm : ha = -9223372036854775808
    · rw [if_pos hm]; have := n2 (by omega); omega
    · rw [if_neg hm]; have := n2 (by omega); omega
  · have e : ¬ (decide (st < 0) || (st == 0 && decide (ha < 0))) = true := by simp; omega
    rw [if_neg hd, if_neg e, if_neg e]
    have := n1 (by omega); omega

theorem upS_bd {st ha : Int} (h1 : -21 ≤ st) (h2 : st ≤ 21) : 0 ≤ upS st ha ∧ upS st ha ≤ 21 := by
  unfold upS downB
  by_cases hd : st < 0 ∨ (st = 0 ∧ ha < 0)
  · have e : (decide (st < 0) || (st == 0 && decide (ha < 0))) = true := by simp; omega
    rw [if_pos e, negW_of (by omega)]; omega
  · have e : ¬ (decide (st < 0) || (st == 0 && decide (ha < 0))) = true := by simp; omega
    rw [if_neg e]; omega

set_option maxHeartbeats 1000000 in
theorem ivI_any (st ha : Int) (w : World) (ht : TabH w) (r1 : r64 st) (r2 : r64 ha) :
    Calls Tryd.prog 48 #[.agg #[.int .i64 st, .int .i64 ha]] w fun e w' => e = .returned (.bool (ivB st ha)) ∧ Below w.heap.size w w' := by
  have hO := Own.start w
  have hF := True.intro
  by_cases h1 : st < -21
  · have HE := hid (show ivB st ha = false by rw [← Bool.not_eq_true, ivB_iff]; omega)
    clear r1 r2
    go_enter Tryd.func48, Tryd.ntmps48
    go_wp2
    go_ret
    exact ⟨ret_bool HE.out.symm, below1 _⟩
  by_cases h2 : 21 < st
  · have HE := hid (show ivB st ha = false by rw [← Bool.not_eq_true, ivB_iff]; omega)
    clear r1 r2
    go_enter Tryd.func48, Tryd.ntmps48
    go_wp2
    go_ret
    exact ⟨ret_bool HE.out.symm, below1 _⟩
  have HE := hid (ivB_of (st := st) r2 (by omega) (by omega))
  obtain ⟨u0, u1⟩ := upS_bd (st := st) (ha := ha) (by omega) (by omega)
  have nb := natZ_bd u0
  have e1 : IntKind.i64.wrap (natZ (upS st ha) - 3) = natZ (upS st ha) - 3 := IntWalk.i64_in _ (by omega)
  have e2 : IntKind.i64.wrap (natZ (upS st ha) + 3) = natZ (upS st ha) + 3 := IntWalk.i64_in _ (by omega)
  go_enter Tryd.func48, Tryd.ntmps48
  go_wp2_with (first | (go_at_call 82; apply own_at hO; (repeat (first | (with_reducible exact hO) | (with_reducible apply Own.alloc) | (with_reducible apply Own.drew) | ((with_reducible apply Own.set_at); (focus (show _ ≤ _; omega))))); have hG := hF; clear hF; clear hO; intro hO; refine own_call hO (fun hB => upwards_any _ _ _ r1 r2) ?_; clear hO; intro w1 hO; (try simp only [World.size_alloc1, World.size_drew, Nat.reduceAdd] at hO); (try simp only [upd, updI, List.map_cons, List.map_nil, eq_self, if_true, if_false, reduceIte, Nat.add_eq_left, Nat.left_eq_add, Nat.reduceEqDiff, List.set_cons_zero, List.set_cons_succ, hG] at hO); clear hG; have hF := hO; (try simp only [Own, Item.Holds, apartI, CellsAt, Nat.reduceAdd, Nat.zero_add, List.mem_cons, List.not_mem_nil, or_false, forall_eq_or_imp, forall_eq, ne_eq, false_imp_iff, implies_true, and_true] at hF)) | (go_at_call 79; apply own_at hO; (repeat (first | (with_reducible exact hO) | (with_reducible apply Own.alloc) | (with_reducible apply Own.drew) | ((with_reducible apply Own.set_at); (focus (show _ ≤ _; omega))))); have hG := hF; clear hF; clear hO; intro hO; refine own_call hO (fun hB => (plainH_any _ _ u0 (by omega) (ht.below hB)).mono fun _ _ ⟨he, hw⟩ => ⟨he, hw ▸ Below.refl _ _⟩) ?_; clear hO; intro w1 hO; (try simp only [World.size_alloc1, World.size_drew, Nat.reduceAdd] at hO); (try simp only [upd, updI, List.map_cons, List.map_nil, eq_self, if_true, if_false, reduceIte, Nat.add_eq_left, Nat.left_eq_add, Nat.reduceEqDiff, List.set_cons_zero, List.set_cons_succ, hG] at hO); clear hG; have hF := hO; (try simp only [Own, Item.Holds, apartI, CellsAt, Nat.reduceAdd, Nat.zero_add, List.mem_cons, List.not_mem_nil, or_false, forall_eq_or_imp, forall_eq, ne_eq, false_imp_iff, implies_true, and_true] at hF)))
  all_goals go_ret
  all_goals exact ⟨ret_bool (by rw [HE.out]; simp_all; try omega), (Own.base (by (repeat (first | (with_reducible exact hO) | (with_reducible apply Own.alloc) | (with_reducible apply Own.drew) | ((with_reducible apply Own.set_at); (focus (show _ ≤ _; omega)))))))⟩

/- Chapter 2 in the program: the functions that the document names. -/
open Go.RowKit

theorem quZ_of {st ha : Int} (h : -9223372036854775807 ≤ ha) (h1 : -21 ≤ st) : quZ st ha = upH st ha - natZ (upS st ha) := by
  unfold quZ upS upH downB
  by_cases hd : st < 0 ∨ (st = 0 ∧ ha < 0)
  · have e : (decide (st < 0) || (st == 0 && decide (ha < 0))) = true := by simp; omega
    rw [if_pos hd, if_pos e, if_pos e, negW_of h, negW_of (by omega)]
  · have e : ¬ (decide (st < 0) || (st == 0 && decide (ha < 0))) = true := by simp; omega
    rw [if_neg hd, if_neg e, if_neg e]
theorem upH_bd {st ha : Int} (h1 : -60 ≤ ha) (h2 : ha ≤ 60) : -60 ≤ upH st ha ∧ upH st ha ≤ 60 := by
  unfold upH
  split
  · rw [negW_of (by omega)]; omega
  · omega
theorem plainB_any (n : Int) (w : World) (h0 : 0 ≤ n) (h1 : n ≤ 1000000) (ht : TabH w) :
    Calls Tryd.prog 79 #[.int .i64 n] w fun e w' => e = .returned (.int .i64 (natZ n)) ∧ Below w.heap.size w w' :=
  (plainH_any n w h0 h1 ht).mono fun _ _ ⟨he, hw⟩ => ⟨he, hw ▸ Below.refl _ _⟩

/- Chapter 2 in the program: ways back, rests, the way between pitches, added ways. -/
open Go.RowKit

set_option maxHeartbeats 1000000 in
theorem backI_yes (st ha : Int) (w : World) (ht : TabH w) (hv : ivB st ha = true) :
    Calls Tryd.prog 37 #[.agg #[.int .i64 st, .int .i64 ha]] w fun e w' => e = .returned (.agg #[.int .i64 (-st), .int .i64 (-ha)]) ∧ Below w.heap.size w w' := by
  have hO := Own.start w
  have hF := True.intro
  obtain ⟨⟨a1, a2⟩, ⟨b1, b2⟩, _⟩ := ivB_iff.1 hv
  have r1 : r64 st := by unfold r64; omega
  have r2 : r64 ha := by unfold r64; omega
  have HE := hid (show negW st = -st ∧ negW ha = -ha from ⟨negW_of (by omega), negW_of (by omega)⟩)
  go_enter Tryd.func37, Tryd.ntmps37
  go_wp2_with (first | (go_at_call 48; apply own_at hO; (repeat (first | (with_reducible exact hO) | (with_reducible apply Own.alloc) | (with_reducible apply Own.drew) | ((with_reducible apply Own.set_at); (focus (show _ ≤ _; omega))))); have hG := hF; clear hF; clear hO; intro hO; refine own_call hO (fun hB => ivI_any _ _ _ (ht.below hB) r1 r2) ?_; clear hO; intro w1 hO; (try simp only [World.size_alloc1, World.size_drew, Nat.reduceAdd] at hO); (try simp only [upd, updI, List.map_cons, List.map_nil, eq_self, if_true, if_false, reduceIte, Nat.add_eq_left, Nat.left_eq_add, Nat.reduceEqDiff, List.set_cons_zero, List.set_cons_succ, hG] at hO); clear hG; have hF := hO; (try simp only [Own, Item.Holds, apartI, CellsAt, Nat.reduceAdd, Nat.zero_add, List.mem_cons, List.not_mem_nil, or_false, forall_eq_or_imp, forall_eq, ne_eq, false_imp_iff, implies_true, and_true] at hF)) | (go_at_call 71; apply own_at hO; (repeat (first | (with_reducible exact hO) | (with_reducible apply Own.alloc) | (with_reducible apply Own.drew) | ((with_reducible apply Own.set_at); (focus (show _ ≤ _; omega))))); have hG := hF; clear hF; clear hO; intro hO; refine own_call hO (fun hB => turned_any _ _ _ r1 r2) ?_; clear hO; intro w1 hO; (try simp only [World.size_alloc1, World.size_drew, Nat.reduceAdd] at hO); (try simp only [upd, updI, List.map_cons, List.map_nil, eq_self, if_true, if_false, reduceIte, Nat.add_eq_left, Nat.left_eq_add, Nat.reduceEqDiff, List.set_cons_zero, List.set_cons_succ, hG] at hO); clear hG; have hF := hO; (try simp only [Own, Item.Holds, apartI, CellsAt, Nat.reduceAdd, Nat.zero_add, List.mem_cons, List.not_mem_nil, or_false, forall_eq_or_imp, forall_eq, ne_eq, false_imp_iff, implies_true, and_true] at hF)))
  rw [← HE.out.1, ← HE.out.2]
  apply own_end hO
  (repeat (first | (with_reducible exact hO) | (with_reducible apply Own.alloc) | (with_reducible apply Own.drew) | ((with_reducible apply Own.set_at); (focus (show _ ≤ _; omega)))))
  have hG := hF; clear hF; clear hO; intro hO
  refine own_ret (v := .agg #[.int .i64 (negW st), .int .i64 (negW ha)]) hO ?_ rfl (fun hO => ⟨rfl, hO.base⟩)
  clear hO; intro w1 hO
  (try simp only [World.size_alloc1, World.size_drew, Nat.reduceAdd] at hO); (try simp only [upd, updI, List.map_cons, List.map_nil, eq_self, if_true, if_false, reduceIte, Nat.add_eq_left, Nat.left_eq_add, Nat.reduceEqDiff, List.set_cons_zero, List.set_cons_succ, hG] at hO); clear hG
  have hF := hO; (try simp only [Own, Item.Holds, apartI, CellsAt, Nat.reduceAdd, Nat.zero_add, List.mem_cons, List.not_mem_nil, or_false, forall_eq_or_imp, forall_eq, ne_eq, false_imp_iff, implies_true, and_true] at hF)
  simp [results, Tryd.results37, go_sem, hF]

set_option maxHeartbeats 1000000 in
theorem backI_no (st ha : Int) (w : World) (ht : TabH w) (r1 : r64 st) (r2 : r64 ha) (hv : ivB st ha = false) :
    Calls Tryd.prog 37 #[.agg #[.int .i64 st, .int .i64 ha]] w fun e w' => e = .returned (.agg #[.int .i64 0, .int .i64 0]) ∧ Below w.heap.size w w' := by
  have hO := Own.start w
  have hF := True.intro
  go_enter Tryd.func37, Tryd.ntmps37
  go_wp2_with (go_at_call 48; apply own_at hO; (repeat (first | (with_reducible exact hO) | (with_reducible apply Own.alloc) | (with_reducible apply Own.drew) | ((with_reducible apply Own.set_at); (focus (show _ ≤ _; omega))))); have hG := hF; clear hF; clear hO; intro hO; refine own_call hO (fun hB => ivI_any _ _ _ (ht.below hB) r1 r2) ?_; clear hO; intro w1 hO; (try simp only [World.size_alloc1, World.size_drew, Nat.reduceAdd] at hO); (try simp only [upd, updI, List.map_cons, List.map_nil, eq_self, if_true, if_false, reduceIte, Nat.add_eq_left, Nat.left_eq_add, Nat.reduceEqDiff, List.set_cons_zero, List.set_cons_succ, hG] at hO); clear hG; have hF := hO; (try simp only [Own, Item.Holds, apartI, CellsAt, Nat.reduceAdd, Nat.zero_add, List.mem_cons, List.not_mem_nil, or_false, forall_eq_or_imp, forall_eq, ne_eq, false_imp_iff, implies_true, and_true] at hF))
  apply own_end hO
  (repeat (first | (with_reducible exact hO) | (with_reducible apply Own.alloc) | (with_reducible apply Own.drew) | ((with_reducible apply Own.set_at); (focus (show _ ≤ _; omega)))))
  have hG := hF; clear hF; clear hO; intro hO
  refine own_ret (v := .agg #[.int .i64 0, .int .i64 0]) hO ?_ rfl (fun hO => ⟨rfl, hO.base⟩)
  clear hO; intro w1 hO
  (try simp only [World.size_alloc1, World.size_drew, Nat.reduceAdd] at hO); (try simp only [upd, updI, List.map_cons, List.map_nil, eq_self, if_true, if_false, reduceIte, Nat.add_eq_left, Nat.left_eq_add, Nat.reduceEqDiff, List.set_cons_zero, List.set_cons_succ, hG] at hO); clear hG
  have hF := hO; (try simp only [Own, Item.Holds, apartI, CellsAt, Nat.reduceAdd, Nat.zero_add, List.mem_cons, List.not_mem_nil, or_false, forall_eq_or_imp, forall_eq, ne_eq, false_imp_iff, implies_true, and_true] at hF)
  simp [results, Tryd.results37, go_sem, hF]

/- Chapter 2 in the program: the way between pitches, added ways. -/
open Go.RowKit

/- Chapter 2 in the program: added ways. -/
open Go.RowKit

set_option maxHeartbeats 2000000 in
theorem patI_b (p k : Int) (w : World) (ht : TabH w) (p0 : 0 ≤ p) (p1 : p ≤ 200) (k0 : -200 ≤ k) (k1 : k ≤ 200) (b : Bool) (v3 : pvB (p % 7) (k - natZ p) (p / 7) = b) :
    Calls Tryd.prog 97 #[.int .i64 p, .int .i64 k] w fun e w' => e = .returned (.tuple #[.agg #[.int .i64 (if b then p % 7 else 0), .int .i64 (if b then k - natZ p else 0), .int .i64 (if b then p / 7 else 0)], .bool b]) ∧ Below w.heap.size w w' := by
  have hO := Own.start w
  have hF := True.intro
  have nb := natZ_bd p0
  have q0 : 0 ≤ p % 7 := by omega
  have q1 : p % 7 ≤ 6 := by omega
  have q2 : 0 ≤ p / 7 := by omega
  have q3 : p / 7 ≤ 100 := by omega
  have d3 : IntKind.i64.wrap (k - natZ p) = k - natZ p := IntWalk.i64_in _ (by omega)
  go_enter Tryd.func97, Tryd.ntmps97
  go_wp2_with (go_at_call 79; apply own_at hO; (repeat (first | (with_reducible exact hO) | (with_reducible apply Own.alloc) | (with_reducible apply Own.drew) | ((with_reducible apply Own.set_at); (focus (show _ ≤ _; omega))))); have hG := hF; clear hF; clear hO; intro hO; refine own_call hO (fun hB => plainB_any _ _ p0 (by omega) (ht.below hB)) ?_; clear hO; intro w1 hO; (try simp only [World.size_alloc1, World.size_drew, Nat.reduceAdd] at hO); (try simp only [upd, updI, List.map_cons, List.map_nil, eq_self, if_true, if_false, reduceIte, Nat.add_eq_left, Nat.left_eq_add, Nat.reduceEqDiff, List.set_cons_zero, List.set_cons_succ, hG] at hO); clear hG; have hF := hO; (try simp only [Own, Item.Holds, apartI, CellsAt, Nat.reduceAdd, Nat.zero_add, List.mem_cons, List.not_mem_nil, or_false, forall_eq_or_imp, forall_eq, ne_eq, false_imp_iff, implies_true, and_true] at hF))
  cases b
  · go_wp2_with (go_at_call 59; apply own_at hO; (repeat (first | (with_reducible exact hO) | (with_reducible apply Own.alloc) | (with_reducible apply Own.drew) | ((with_reducible apply Own.set_at); (focus (show _ ≤ _; omega))))); have hG := hF; clear hF; clear hO; intro hO; refine own_call hO (fun hB => pvI_any _ _ _ _) ?_; clear hO; intro w1 hO; (try simp only [World.size_alloc1, World.size_drew, Nat.reduceAdd] at hO); (try simp only [upd, updI, List.map_cons, List.map_nil, eq_self, if_true, if_false, reduceIte, Nat.add_eq_left, Nat.left_eq_add, Nat.reduceEqDiff, List.set_cons_zero, List.set_cons_succ, hG] at hO); clear hG; have hF := hO; (try simp only [Own, Item.Holds, apartI, CellsAt, Nat.reduceAdd, Nat.zero_add, List.mem_cons, List.not_mem_nil, or_false, forall_eq_or_imp, forall_eq, ne_eq, false_imp_iff, implies_true, and_true] at hF))
    apply own_end hO
    (repeat (first | (with_reducible exact hO) | (with_reducible apply Own.alloc) | (with_reducible apply Own.drew) | ((with_reducible apply Own.set_at); (focus (show _ ≤ _; omega)))))
    have hG := hF; clear hF; clear hO; intro hO
    refine own_ret (v := .tuple #[.agg #[.int .i64 0, .int .i64 0, .int .i64 0], .bool false]) hO ?_ rfl (fun hO => ⟨rfl, hO.base⟩)
    clear hO; intro w1 hO
    (try simp only [World.size_alloc1, World.size_drew, Nat.reduceAdd] at hO); (try simp only [upd, updI, List.map_cons, List.map_nil, eq_self, if_true, if_false, reduceIte, Nat.add_eq_left, Nat.left_eq_add, Nat.reduceEqDiff, List.set_cons_zero, List.set_cons_succ, hG] at hO); clear hG
    have hF := hO; (try simp only [Own, Item.Holds, apartI, CellsAt, Nat.reduceAdd, Nat.zero_add, List.mem_cons, List.not_mem_nil, or_false, forall_eq_or_imp, forall_eq, ne_eq, false_imp_iff, implies_true, and_true] at hF)
    simp [results, Tryd.results97, go_sem, hF]
  · go_wp2_with (go_at_call 59; apply own_at hO; (repeat (first | (with_reducible exact hO) | (with_reducible apply Own.alloc) | (with_reducible apply Own.drew) | ((with_reducible apply Own.set_at); (focus (show _ ≤ _; omega))))); have hG := hF; clear hF; clear hO; intro hO; refine own_call hO (fun hB => pvI_any _ _ _ _) ?_; clear hO; intro w1 hO; (try simp only [World.size_alloc1, World.size_drew, Nat.reduceAdd] at hO); (try simp only [upd, updI, List.map_cons, List.map_nil, eq_self, if_true, if_false, reduceIte, Nat.add_eq_left, Nat.left_eq_add, Nat.reduceEqDiff, List.set_cons_zero, List.set_cons_succ, hG] at hO); clear hG; have hF := hO; (try simp only [Own, Item.Holds, apartI, CellsAt, Nat.reduceAdd, Nat.zero_add, List.mem_cons, List.not_mem_nil, or_false, forall_eq_or_imp, forall_eq, ne_eq, false_imp_iff, implies_true, and_true] at hF))
    apply own_end hO
    (repeat (first | (with_reducible exact hO) | (with_reducible apply Own.alloc) | (with_reducible apply Own.drew) | ((with_reducible apply Own.set_at); (focus (show _ ≤ _; omega)))))
    have hG := hF; clear hF; clear hO; intro hO
    refine own_ret (v := .tuple #[.agg #[.int .i64 (p % 7), .int .i64 (k - natZ p), .int .i64 (p / 7)], .bool true]) hO ?_ rfl (fun hO => ⟨rfl, hO.base⟩)
    clear hO; intro w1 hO
    (try simp only [World.size_alloc1, World.size_drew, Nat.reduceAdd] at hO); (try simp only [upd, updI, List.map_cons, List.map_nil, eq_self, if_true, if_false, reduceIte, Nat.add_eq_left, Nat.left_eq_add, Nat.reduceEqDiff, List.set_cons_zero, List.set_cons_succ, hG] at hO); clear hG
    have hF := hO; (try simp only [Own, Item.Holds, apartI, CellsAt, Nat.reduceAdd, Nat.zero_add, List.mem_cons, List.not_mem_nil, or_false, forall_eq_or_imp, forall_eq, ne_eq, false_imp_iff, implies_true, and_true] at hF)
    simp [results, Tryd.results97, go_sem, hF]

set_option maxHeartbeats 1000000 in
theorem patI_no (p k : Int) (w : World) (p0 : p < 0) :
    Calls Tryd.prog 97 #[.int .i64 p, .int .i64 k] w fun e w' => e = .returned (.tuple #[.agg #[.int .i64 0, .int .i64 0, .int .i64 0], .bool false]) ∧ Below w.heap.size w w' := by
  have hO := Own.start w
  have hF := True.intro
  go_enter Tryd.func97, Tryd.ntmps97
  go_wp2_with fail
  apply own_end hO
  (repeat (first | (with_reducible exact hO) | (with_reducible apply Own.alloc) | (with_reducible apply Own.drew) | ((with_reducible apply Own.set_at); (focus (show _ ≤ _; omega)))))
  have hG := hF; clear hF; clear hO; intro hO
  refine own_ret (v := .tuple #[.agg #[.int .i64 0, .int .i64 0, .int .i64 0], .bool false]) hO ?_ rfl (fun hO => ⟨rfl, hO.base⟩)
  clear hO; intro w1 hO
  (try simp only [World.size_alloc1, World.size_drew, Nat.reduceAdd] at hO); (try simp only [upd, updI, List.map_cons, List.map_nil, eq_self, if_true, if_false, reduceIte, Nat.add_eq_left, Nat.left_eq_add, Nat.reduceEqDiff, List.set_cons_zero, List.set_cons_succ, hG] at hO); clear hG
  have hF := hO; (try simp only [Own, Item.Holds, apartI, CellsAt, Nat.reduceAdd, Nat.zero_add, List.mem_cons, List.not_mem_nil, or_false, forall_eq_or_imp, forall_eq, ne_eq, false_imp_iff, implies_true, and_true] at hF)
  simp [results, Tryd.results97, go_sem, hF]

/-- What pitchAt answers. -/
def patB (p k : Int) : Bool := decide (0 ≤ p) && pvB (p % 7) (k - natZ p) (p / 7)
theorem patI_any (p k : Int) (w : World) (ht : TabH w) (p1 : p ≤ 200) (k0 : -200 ≤ k) (k1 : k ≤ 200) (b : Bool) (v3 : patB p k = b) :
    Calls Tryd.prog 97 #[.int .i64 p, .int .i64 k] w fun e w' => e = .returned (.tuple #[.agg #[.int .i64 (if b then p % 7 else 0), .int .i64 (if b then k - natZ p else 0), .int .i64 (if b then p / 7 else 0)], .bool b]) ∧ Below w.heap.size w w' := by
  by_cases h : 0 ≤ p
  · exact patI_b p k w ht h p1 k0 k1 b (by simpa [patB, h] using v3)
  · have : b = false := by rw [← v3]; simp [patB, h]
    subst this
    exact patI_no p k w (by omega)

set_option maxHeartbeats 2000000 in
theorem adI_b (s a o st ha p k : Int) (w : World) (ht : TabH w) (v1 : pvB s a o = true) (v2 : ivB st ha = true) (hp : 7 * o + s + st = p) (hk : keyZ s a o + ha = k) (b : Bool) (v3 : patB p k = b) :
    Calls Tryd.prog 83 #[.agg #[.int .i64 s, .int .i64 a, .int .i64 o], .agg #[.int .i64 st, .int .i64 ha]] w fun e w' => e = .returned (.tuple #[.agg #[.int .i64 (if b then p % 7 else 0), .int .i64 (if b then k - natZ p else 0), .int .i64 (if b then p / 7 else 0)], .bool b]) ∧ Below w.heap.size w w' := by
  have hO := Own.start w
  have hF := True.intro
  have k1 := keyZ_bd v1
  obtain ⟨⟨h1, h2⟩, ⟨h3, h4⟩, ⟨h5, h6⟩⟩ := pvB_iff.1 v1
  obtain ⟨⟨g1, g2⟩, ⟨g3, g4⟩, _⟩ := ivB_iff.1 v2
  have r1 : r64 st := by unfold r64; omega
  have r2 : r64 ha := by unfold r64; omega
  have p1 : p ≤ 200 := by omega
  have p2 : -200 ≤ p := by omega
  have k2 : -200 ≤ k := by omega
  have k3 : k ≤ 200 := by omega
  have d1 : IntKind.i64.wrap (placeZ s a o + st) = p := by
    rw [show placeZ s a o = 7 * o + s by simp [placeZ, v1], hp]
    exact IntWalk.i64_in _ (by omega)
  have d2 : IntKind.i64.wrap (keyZ s a o + ha) = k := by rw [hk]; exact IntWalk.i64_in _ (by omega)
  have V3 := hid v3
  clear hp hk v3
  go_enter Tryd.func83, Tryd.ntmps83
  go_wp2_with (first | (go_at_call 59; apply own_at hO; (repeat (first | (with_reducible exact hO) | (with_reducible apply Own.alloc) | (with_reducible apply Own.drew) | ((with_reducible apply Own.set_at); (focus (show _ ≤ _; omega))))); have hG := hF; clear hF; clear hO; intro hO; refine own_call hO (fun hB => pvI_any _ _ _ _) ?_; clear hO; intro w1 hO; (try simp only [World.size_alloc1, World.size_drew, Nat.reduceAdd] at hO); (try simp only [upd, updI, List.map_cons, List.map_nil, eq_self, if_true, if_false, reduceIte, Nat.add_eq_left, Nat.left_eq_add, Nat.reduceEqDiff, List.set_cons_zero, List.set_cons_succ, hG] at hO); clear hG; have hF := hO; (try simp only [Own, Item.Holds, apartI, CellsAt, Nat.reduceAdd, Nat.zero_add, List.mem_cons, List.not_mem_nil, or_false, forall_eq_or_imp, forall_eq, ne_eq, false_imp_iff, implies_true, and_true] at hF)) | (go_at_call 48; apply own_at hO; (repeat (first | (with_reducible exact hO) | (with_reducible apply Own.alloc) | (with_reducible apply Own.drew) | ((with_reducible apply Own.set_at); (focus (show _ ≤ _; omega))))); have hG := hF; clear hF; clear hO; intro hO; refine own_call hO (fun hB => ivI_any _ _ _ (ht.below hB) r1 r2) ?_; clear hO; intro w1 hO; (try simp only [World.size_alloc1, World.size_drew, Nat.reduceAdd] at hO); (try simp only [upd, updI, List.map_cons, List.map_nil, eq_self, if_true, if_false, reduceIte, Nat.add_eq_left, Nat.left_eq_add, Nat.reduceEqDiff, List.set_cons_zero, List.set_cons_succ, hG] at hO); clear hG; have hF := hO; (try simp only [Own, Item.Holds, apartI, CellsAt, Nat.reduceAdd, Nat.zero_add, List.mem_cons, List.not_mem_nil, or_false, forall_eq_or_imp, forall_eq, ne_eq, false_imp_iff, implies_true, and_true] at hF)))
  apply own_code hO
  (repeat (first | (with_reducible exact hO) | (with_reducible apply Own.alloc) | (with_reducible apply Own.drew) | ((with_reducible apply Own.set_at); (focus (show _ ≤ _; omega)))))
  have hG := hF; clear hF; clear hO; intro hO
  (try simp only [World.size_alloc1, World.size_drew, Nat.reduceAdd] at hO); (try simp only [upd, updI, List.map_cons, List.map_nil, eq_self, if_true, if_false, reduceIte, Nat.add_eq_left, Nat.left_eq_add, Nat.reduceEqDiff, List.set_cons_zero, List.set_cons_succ, hG] at hO); clear hG
  refine region_own (X := fun _ => True) [13] (by kernel_rfl) (hO) (trivial) (by first | exact XStab.true | exact XStab.rd | exact XStab.rdIf) ?_
  clear hO
  refine Sim.sO (i := 0) (d := some 15) (v := ?_) (hy := ?_) (h := ?_)
  rotate_left
  · first | refine Or.inl ⟨by rfl, fun w hO => ?_⟩ | (refine Or.inr ⟨by rfl, ?_⟩; with_reducible rfl)
    first | done | (have hF := hO; (try simp only [Own, Item.Holds, apartI, CellsAt, Nat.reduceAdd, Nat.zero_add, List.mem_cons, List.not_mem_nil, or_false, forall_eq_or_imp, forall_eq, ne_eq, false_imp_iff, implies_true, and_true] at hF); refine Out.same ?_; go_simp; all_goals with_reducible rfl)
  refine Sim.sO (i := 1) (d := some 16) (v := ?_) (hy := ?_) (h := ?_)
  rotate_left
  · first | refine Or.inl ⟨by rfl, fun w hO => ?_⟩ | (refine Or.inr ⟨by rfl, ?_⟩; with_reducible rfl)
    first | done | (refine Out.call (f := 98) (args := ?_) ?_ ?_; rotate_left; (focus (go_simp; all_goals with_reducible rfl)); exact placeI_any _ _ _ _)
  refine Sim.sP (i := 2) (d := some 17) (h := ?_)
  refine Sim.sO (i := 3) (d := some 18) (v := ?_) (hy := ?_) (h := ?_)
  rotate_left
  · first | refine Or.inl ⟨by rfl, fun w hO => ?_⟩ | (refine Or.inr ⟨by rfl, ?_⟩; with_reducible rfl)
    first | done | (have hF := hO; (try simp only [Own, Item.Holds, apartI, CellsAt, Nat.reduceAdd, Nat.zero_add, List.mem_cons, List.not_mem_nil, or_false, forall_eq_or_imp, forall_eq, ne_eq, false_imp_iff, implies_true, and_true] at hF); refine Out.same ?_; go_simp; all_goals with_reducible rfl)
  refine Sim.sP (i := 4) (d := some 19) (h := ?_)
  refine Sim.sO (i := 5) (d := some 20) (v := ?_) (hy := ?_) (h := ?_)
  rotate_left
  · first | refine Or.inl ⟨by rfl, fun w hO => ?_⟩ | (refine Or.inr ⟨by rfl, ?_⟩; with_reducible rfl)
    first | done | (have hF := hO; (try simp only [Own, Item.Holds, apartI, CellsAt, Nat.reduceAdd, Nat.zero_add, List.mem_cons, List.not_mem_nil, or_false, forall_eq_or_imp, forall_eq, ne_eq, false_imp_iff, implies_true, and_true] at hF); refine Out.same ?_; go_simp; all_goals with_reducible rfl)
  refine Sim.sO (i := 6) (d := some 21) (v := ?_) (hy := ?_) (h := ?_)
  rotate_left
  · first | refine Or.inl ⟨by rfl, fun w hO => ?_⟩ | (refine Or.inr ⟨by rfl, ?_⟩; with_reducible rfl)
    first | done | (refine Out.call (f := 47) (args := ?_) ?_ ?_; rotate_left; (focus (go_simp; all_goals with_reducible rfl)); exact keyI_any _ _ _ _ (ht.below hO.base))
  refine Sim.sP (i := 7) (d := some 22) (h := ?_)
  refine Sim.sO (i := 8) (d := some 23) (v := ?_) (hy := ?_) (h := ?_)
  rotate_left
  · first | refine Or.inl ⟨by rfl, fun w hO => ?_⟩ | (refine Or.inr ⟨by rfl, ?_⟩; with_reducible rfl)
    first | done | (have hF := hO; (try simp only [Own, Item.Holds, apartI, CellsAt, Nat.reduceAdd, Nat.zero_add, List.mem_cons, List.not_mem_nil, or_false, forall_eq_or_imp, forall_eq, ne_eq, false_imp_iff, implies_true, and_true] at hF); refine Out.same ?_; go_simp; all_goals with_reducible rfl)
  refine Sim.sP (i := 9) (d := some 24) (h := ?_)
  refine Sim.sO (i := 10) (d := some 25) (v := ?_) (hy := ?_) (h := ?_)
  rotate_left
  · first | refine Or.inl ⟨by rfl, fun w hO => ?_⟩ | (refine Or.inr ⟨by rfl, ?_⟩; with_reducible rfl)
    first | done | (refine Out.call (f := 97) (args := ?_) ?_ ?_; rotate_left; (focus (go_simp; all_goals with_reducible rfl)); exact patI_any p k _ (ht.below hO.base) p1 k2 k3 b V3.out)
  refine Sim.sP (i := 11) (d := some 26) (h := ?_)
  refine Sim.sP (i := 12) (d := some 27) (h := ?_)
  refine Sim.one' (i := 13) (oi := { dst := none, op := Op.store 37 (Operand.tmp 4) (Operand.tmp 26), type := 0, pos := "l2_intervals.go:42", after := #[{ on := 11, ground := Ground.data }, { on := 10, ground := Ground.chain }, { on := 0, ground := Ground.phase }, { on := 1, ground := Ground.phase }, { on := 2, ground := Ground.phase }, { on := 3, ground := Ground.phase }, { on := 4, ground := Ground.phase }, { on := 5, ground := Ground.phase }, { on := 6, ground := Ground.phase }, { on := 7, ground := Ground.phase }, { on := 8, ground := Ground.phase }, { on := 9, ground := Ground.phase }, { on := 10, ground := Ground.phase }, { on := 11, ground := Ground.phase }, { on := 12, ground := Ground.phase }], guard := none }) (by kernel_rfl) rfl (by rfl) (fun w0 hO hX K hK => ?_)
  have hF := hO; (try simp only [Own, Item.Holds, apartI, CellsAt, Nat.reduceAdd, Nat.zero_add, List.mem_cons, List.not_mem_nil, or_false, forall_eq_or_imp, forall_eq, ne_eq, false_imp_iff, implies_true, and_true] at hF)
  go_simp
  apply hK _ _ _ (fun _ => True)
  (repeat (first | (with_reducible exact hO) | (with_reducible apply Own.alloc) | (with_reducible apply Own.drew) | ((with_reducible apply Own.set_at); (focus (show _ ≤ _; omega)))))
  · first | exact trivial | exact hX | exact hX.below (below1 _) | exact RdIf.gone | exact hX.keep ((Below.refl _ _).setCell (by first | omega | (dsimp only; omega)) _)
  · exact (by first | exact XStab.true | exact XStab.rd | exact XStab.rdIf)
  · first | exact fun _ _ h => h.2 | exact fun _ _ h => h | exact fun h => absurd h (by decide)
  try simp only [upd, updI, List.map_cons, List.map_nil, eq_self, if_true, if_false, reduceIte, Nat.add_eq_left, Nat.left_eq_add, Nat.reduceEqDiff, List.set_cons_zero, List.set_cons_succ, hF]
  clear hK K hF hO
  try simp only [Act.put, List.setIfInBounds_toArray, List.set_cons_zero, List.set_cons_succ]
  refine Sim.sP (i := 14) (d := some 5) (h := ?_)
  refine Sim.done (by kernel_rfl) (fun w1 hO hX => ?_) _
  (try simp only [World.size_alloc1, World.size_drew, Nat.reduceAdd] at hO); (try simp only [upd, updI, List.map_cons, List.map_nil, eq_self, if_true, if_false, reduceIte, Nat.add_eq_left, Nat.left_eq_add, Nat.reduceEqDiff, List.set_cons_zero, List.set_cons_succ] at hO)
  have hF := hO; (try simp only [Own, Item.Holds, apartI, CellsAt, Nat.reduceAdd, Nat.zero_add, List.mem_cons, List.not_mem_nil, or_false, forall_eq_or_imp, forall_eq, ne_eq, false_imp_iff, implies_true, and_true] at hF)
  cases b
  · go_wp2
    apply own_end hO
    (repeat (first | (with_reducible exact hO) | (with_reducible apply Own.alloc) | (with_reducible apply Own.drew) | ((with_reducible apply Own.set_at); (focus (show _ ≤ _; omega)))))
    have hG := hF; clear hF; clear hO; intro hO
    refine own_ret (v := .tuple #[.agg #[.int .i64 0, .int .i64 0, .int .i64 0], .bool false]) hO ?_ rfl (fun hO => ⟨rfl, hO.base⟩)
    clear hO; intro w1 hO
    (try simp only [World.size_alloc1, World.size_drew, Nat.reduceAdd] at hO); (try simp only [upd, updI, List.map_cons, List.map_nil, eq_self, if_true, if_false, reduceIte, Nat.add_eq_left, Nat.left_eq_add, Nat.reduceEqDiff, List.set_cons_zero, List.set_cons_succ, hG] at hO); clear hG
    have hF := hO; (try simp only [Own, Item.Holds, apartI, CellsAt, Nat.reduceAdd, Nat.zero_add, List.mem_cons, List.not_mem_nil, or_false, forall_eq_or_imp, forall_eq, ne_eq, false_imp_iff, implies_true, and_true] at hF)
    simp [results, Tryd.results83, go_sem, hF]
  · go_wp2
    apply own_end hO
    (repeat (first | (with_reducible exact hO) | (with_reducible apply Own.alloc) | (with_reducible apply Own.drew) | ((with_reducible apply Own.set_at); (focus (show _ ≤ _; omega)))))
    have hG := hF; clear hF; clear hO; intro hO
    refine own_ret (v := .tuple #[.agg #[.int .i64 (p % 7), .int .i64 (k - natZ p), .int .i64 (p / 7)], .bool true]) hO ?_ rfl (fun hO => ⟨rfl, hO.base⟩)
    clear hO; intro w1 hO
    (try simp only [World.size_alloc1, World.size_drew, Nat.reduceAdd] at hO); (try simp only [upd, updI, List.map_cons, List.map_nil, eq_self, if_true, if_false, reduceIte, Nat.add_eq_left, Nat.left_eq_add, Nat.reduceEqDiff, List.set_cons_zero, List.set_cons_succ, hG] at hO); clear hG
    have hF := hO; (try simp only [Own, Item.Holds, apartI, CellsAt, Nat.reduceAdd, Nat.zero_add, List.mem_cons, List.not_mem_nil, or_false, forall_eq_or_imp, forall_eq, ne_eq, false_imp_iff, implies_true, and_true] at hF)
    simp [results, Tryd.results83, go_sem, hF]

set_option maxHeartbeats 1000000 in
theorem adI_no12 (s a o st ha : Int) (w : World) (ht : TabH w) (r1 : r64 st) (r2 : r64 ha) (hv : pvB s a o = false ∨ (pvB s a o = true ∧ ivB st ha = false)) :
    Calls Tryd.prog 83 #[.agg #[.int .i64 s, .int .i64 a, .int .i64 o], .agg #[.int .i64 st, .int .i64 ha]] w fun e w' => e = .returned (.tuple #[.agg #[.int .i64 0, .int .i64 0, .int .i64 0], .bool false]) ∧ Below w.heap.size w w' := by
  have hO := Own.start w
  have hF := True.intro
  rcases hv with v1 | ⟨v1, v2⟩
  all_goals
    go_enter Tryd.func83, Tryd.ntmps83
    go_wp2_with (first | (go_at_call 59; apply own_at hO; (repeat (first | (with_reducible exact hO) | (with_reducible apply Own.alloc) | (with_reducible apply Own.drew) | ((with_reducible apply Own.set_at); (focus (show _ ≤ _; omega))))); have hG := hF; clear hF; clear hO; intro hO; refine own_call hO (fun hB => pvI_any _ _ _ _) ?_; clear hO; intro w1 hO; (try simp only [World.size_alloc1, World.size_drew, Nat.reduceAdd] at hO); (try simp only [upd, updI, List.map_cons, List.map_nil, eq_self, if_true, if_false, reduceIte, Nat.add_eq_left, Nat.left_eq_add, Nat.reduceEqDiff, List.set_cons_zero, List.set_cons_succ, hG] at hO); clear hG; have hF := hO; (try simp only [Own, Item.Holds, apartI, CellsAt, Nat.reduceAdd, Nat.zero_add, List.mem_cons, List.not_mem_nil, or_false, forall_eq_or_imp, forall_eq, ne_eq, false_imp_iff, implies_true, and_true] at hF)) | (go_at_call 48; apply own_at hO; (repeat (first | (with_reducible exact hO) | (with_reducible apply Own.alloc) | (with_reducible apply Own.drew) | ((with_reducible apply Own.set_at); (focus (show _ ≤ _; omega))))); have hG := hF; clear hF; clear hO; intro hO; refine own_call hO (fun hB => ivI_any _ _ _ (ht.below hB) r1 r2) ?_; clear hO; intro w1 hO; (try simp only [World.size_alloc1, World.size_drew, Nat.reduceAdd] at hO); (try simp only [upd, updI, List.map_cons, List.map_nil, eq_self, if_true, if_false, reduceIte, Nat.add_eq_left, Nat.left_eq_add, Nat.reduceEqDiff, List.set_cons_zero, List.set_cons_succ, hG] at hO); clear hG; have hF := hO; (try simp only [Own, Item.Holds, apartI, CellsAt, Nat.reduceAdd, Nat.zero_add, List.mem_cons, List.not_mem_nil, or_false, forall_eq_or_imp, forall_eq, ne_eq, false_imp_iff, implies_true, and_true] at hF)))
    apply own_end hO
    (repeat (first | (with_reducible exact hO) | (with_reducible apply Own.alloc) | (with_reducible apply Own.drew) | ((with_reducible apply Own.set_at); (focus (show _ ≤ _; omega)))))
    have hG := hF; clear hF; clear hO; intro hO
    refine own_ret (v := .tuple #[.agg #[.int .i64 0, .int .i64 0, .int .i64 0], .bool false]) hO ?_ rfl (fun hO => ⟨rfl, hO.base⟩)
    clear hO; intro w1 hO
    (try simp only [World.size_alloc1, World.size_drew, Nat.reduceAdd] at hO); (try simp only [upd, updI, List.map_cons, List.map_nil, eq_self, if_true, if_false, reduceIte, Nat.add_eq_left, Nat.left_eq_add, Nat.reduceEqDiff, List.set_cons_zero, List.set_cons_succ, hG] at hO); clear hG
    have hF := hO; (try simp only [Own, Item.Holds, apartI, CellsAt, Nat.reduceAdd, Nat.zero_add, List.mem_cons, List.not_mem_nil, or_false, forall_eq_or_imp, forall_eq, ne_eq, false_imp_iff, implies_true, and_true] at hF)
    simp [results, Tryd.results83, go_sem, hF]

theorem adI_yes (s a o st ha : Int) (w : World) (ht : TabH w) (hv : adB s a o st ha = true) :
    Calls Tryd.prog 83 #[.agg #[.int .i64 s, .int .i64 a, .int .i64 o], .agg #[.int .i64 st, .int .i64 ha]] w fun e w' => e = .returned (.tuple #[.agg #[.int .i64 (adP s o st % 7), .int .i64 (adA s a o st ha), .int .i64 (adP s o st / 7)], .bool true]) ∧ Below w.heap.size w w' := by
  unfold adB at hv
  simp only [Bool.and_eq_true, decide_eq_true_eq] at hv
  obtain ⟨⟨⟨v1, v2⟩, v3⟩, v4⟩ := hv
  exact adI_b s a o st ha (adP s o st) _ w ht v1 v2 rfl rfl true (by simp only [patB, Bool.and_eq_true, decide_eq_true_eq]; exact ⟨v3, v4⟩)

theorem adI_no (s a o st ha : Int) (w : World) (ht : TabH w) (r1 : r64 st) (r2 : r64 ha) (hv : adB s a o st ha = false) :
    Calls Tryd.prog 83 #[.agg #[.int .i64 s, .int .i64 a, .int .i64 o], .agg #[.int .i64 st, .int .i64 ha]] w fun e w' => e = .returned (.tuple #[.agg #[.int .i64 0, .int .i64 0, .int .i64 0], .bool false]) ∧ Below w.heap.size w w' := by
  cases v1 : pvB s a o
  · exact adI_no12 s a o st ha w ht r1 r2 (Or.inl v1)
  cases v2 : ivB st ha
  · exact adI_no12 s a o st ha w ht r1 r2 (Or.inr ⟨v1, v2⟩)
  exact adI_b s a o st ha (adP s o st) _ w ht v1 v2 rfl rfl false (by simpa [adB, patB, v1, v2, adA] using hv)
end Go.Proofs.YtcgcnkddgihkpaaDoor
