/- Chapter 13 in the program: figures, chords that stand on them. -/
import Derived.Test.YtfdglkiehkilnaaDoorWalks3I
import Derived.Test.YtfdglkiehkilnaaDoorWalks10V
import Derived.Test.YtfdglkiehkilnaaDoorWalks13S
import Derived.Test.YtfdglkiehkilnaaDoorIntC
namespace Go.Proofs.YtfdglkiehkilnaaDoor
set_option linter.unusedSimpArgs false
set_option linter.unusedVariables false
set_option maxRecDepth 8000
open Go.RowKit Go.Joins

set_option maxHeartbeats 2000000 in
theorem fsI_no (g : Int) (w : World) (h : fgL g = []) :
    Calls Tryd.prog 104 #[.int .i64 g] w fun e w' => e = .returned (.slice none 0 0) ∧ Below w.heap.size w w' := by
  rcases fg_cases g with ⟨_, e⟩ | ⟨_, e⟩ | ⟨_, e⟩ | ⟨_, e⟩ | ⟨h5, h6, h4, h7, e⟩
  · rw [e] at h; cases h
  · rw [e] at h; cases h
  · rw [e] at h; cases h
  · rw [e] at h; cases h
  · have g5 : (g == 5) = false := by simp [h5]
    have g6 : (g == 6) = false := by simp [h6]
    have g4 : (g == 4) = false := by simp [h4]
    have g7 : (g == 7) = false := by simp [h7]
    clear h e h5 h6 h4 h7
    go_enter Tryd.func104, Tryd.ntmps104
    go_wp2
    go_ret
    exact ⟨rfl, Below.refl _ _⟩

set_option maxHeartbeats 2000000 in
theorem fsI_yes (g : Int) (w : World) (h : fgL g ≠ []) :
    Calls Tryd.prog 104 #[.int .i64 g] w (RowOut 3 1 (fgL g).length (intC (fgL g)) w) := by
  have hO := Own.start w
  rcases fg_cases g with ⟨rfl, e⟩ | ⟨rfl, e⟩ | ⟨rfl, e⟩ | ⟨rfl, e⟩ | ⟨_, _, _, _, e⟩
  · rw [e]
    clear h e
    go_enter Tryd.func104, Tryd.ntmps104
    go_wp2
    go_ret
    exact RowOut.mk (Own.allocRow (e := 3) (cur := #[.int .i64 2, .int .i64 4]) (k := 2) (cap := 2) 1 hO (Nat.le_refl _) (by unfold maxLen; omega) rfl)
  · rw [e]
    clear h e
    go_enter Tryd.func104, Tryd.ntmps104
    go_wp2
    go_ret
    exact RowOut.mk (Own.allocRow (e := 3) (cur := #[.int .i64 2, .int .i64 5]) (k := 2) (cap := 2) 1 hO (Nat.le_refl _) (by unfold maxLen; omega) rfl)
  · rw [e]
    clear h e
    go_enter Tryd.func104, Tryd.ntmps104
    go_wp2
    go_ret
    exact RowOut.mk (Own.allocRow (e := 3) (cur := #[.int .i64 3, .int .i64 5]) (k := 2) (cap := 2) 1 hO (Nat.le_refl _) (by unfold maxLen; omega) rfl)
  · rw [e]
    clear h e
    go_enter Tryd.func104, Tryd.ntmps104
    go_wp2
    go_ret
    exact RowOut.mk (Own.allocRow (e := 3) (cur := #[.int .i64 2, .int .i64 4, .int .i64 6]) (k := 3) (cap := 3) 1 hO (Nat.le_refl _) (by unfold maxLen; omega) rfl)
  · exact absurd e h

theorem plI_ft {x : Pt} {z : Int} (h : plZ x = z) (W : World) :
    Calls Tryd.prog 106 #[.agg #[.int .i64 x.s, .int .i64 x.a, .int .i64 x.o]] W fun e w' => e = .returned (.int .i64 z) ∧ Below W.heap.size W w' := by
  subst h; exact placeI_any x.s x.a x.o W
theorem kpI_at {f p s a o : Int} {w : World} (hA : TabA w) (hf : keyB f = true) (p0 : 0 ≤ p) (p1 : p ≤ 1000) (h : plP f p = ⟨s, a, o⟩) (W : World) (hW : Below w.heap.size w W) :
    Calls Tryd.prog 105 #[.int .i64 f, .int .i64 p] W fun e w' => e = .returned (.agg #[.int .i64 s, .int .i64 a, .int .i64 o]) ∧ Below W.heap.size W w' := by
  unfold plP at h
  cases h
  exact kpI_any f p W (hA.below hW) hf p0 p1
theorem fsI_is {g : Int} {us : List Int} {m : Nat} (h : fgL g = us) (hm : us.length = m) (h0 : 0 < m) (W : World) :
    Calls Tryd.prog 104 #[.int .i64 g] W (RowOut 3 1 m (intC us) W) := by
  subst h hm
  exact fsI_yes g W (List.length_pos_iff.1 h0)
theorem ft_all_iff {f : Int} {x : Pt} {us : List Int} (hx : pvP x = true) : (x :: us.map (ftT f x)).all pvP = true ↔ ∀ k ∈ us, pvP (ftT f x k) = true := by
  rw [List.all_cons, hx, Bool.true_and, List.all_map, List.all_eq_true]
  rfl

set_option maxRecDepth 20000 in
set_option maxHeartbeats 8000000 in
theorem ftI_any (f : Int) (x : Pt) (g : Int) (w : World) (hA : TabA w) :
    Calls Tryd.prog 82 #[.int .i64 f, .agg #[.int .i64 x.s, .int .i64 x.a, .int .i64 x.o], .int .i64 g] w (RowOut 29 3 (ftL f x g).length (pcC (ftL f x g)) w) := by
  have hO := Own.start w
  have hF := True.intro
  obtain ⟨i0, hi, hz0, hz1, hz2⟩ := info_parts infoPi
  by_cases hg : fgL g = []
  · have HS := hid (fun W => fsI_no g W hg)
    have HE := hid (ft_no (f := f) (x := x) (g := g) (fun h => h.2.2.1 hg))
    rw [HE.out]
    have hnil : ∀ W : World, (binOp BinOp.eql 60 (.slice none 0 0) (.slice none 0 0)).run Tryd.prog W = .ok (.bool true) W := fun W => Lib.run_eql_slice_nil W 60 _ _ 0 0 0 0 Tryd.underlying60
    clear hg hA
    go_enter Tryd.func82, Tryd.ntmps82
    go_wp2_with (go_at_call 104; apply own_at hO; (repeat (first | (with_reducible exact hO) | (with_reducible apply Own.alloc) | (with_reducible apply Own.drew) | ((with_reducible apply Own.set_at); (focus (show _ ≤ _; omega))))); have hG := hF; clear hF; clear hO; intro hO; refine own_call hO (fun hB => HS.out _) ?_; clear hO; intro w1 hO; (try simp only [World.size_alloc1, World.size_drew, Nat.reduceAdd] at hO); (try simp only [upd, updI, List.map_cons, List.map_nil, eq_self, if_true, if_false, reduceIte, Nat.add_eq_left, Nat.left_eq_add, Nat.reduceEqDiff, List.set_cons_zero, List.set_cons_succ, hG] at hO); clear hG; have hF := hO; (try simp only [Own, Item.Holds, apartI, CellsAt, Nat.reduceAdd, Nat.zero_add, List.mem_cons, List.not_mem_nil, or_false, forall_eq_or_imp, forall_eq, ne_eq, false_imp_iff, implies_true, and_true] at hF))
    go_ret
    exact RowOut.mk (Own.nilRow 29 3 (by (repeat (first | (with_reducible exact hO) | (with_reducible apply Own.alloc) | (with_reducible apply Own.drew) | ((with_reducible apply Own.set_at); (focus (show _ ≤ _; omega)))))))
  · obtain ⟨us, hus⟩ : ∃ us, fgL g = us := ⟨_, rfl⟩
    obtain ⟨m, hm⟩ : ∃ m, us.length = m := ⟨_, rfl⟩
    have m0 : 0 < m := by rw [← hm, ← hus]; exact List.length_pos_iff.2 hg
    have m3 : m ≤ 3 := by
      rw [← hm, ← hus]
      rcases fg_cases g with ⟨_, e⟩ | ⟨_, e⟩ | ⟨_, e⟩ | ⟨_, e⟩ | ⟨_, _, _, _, e⟩ <;> rw [e] <;> simp
    have HS := hid (fun W => fsI_is hus hm m0 W)
    have HUB := hid (fun k (hk : k ∈ us) => fg_bd (g := g) (by rw [hus]; exact hk))
    have HM := hid hm
    have hnil : ∀ (W : World) (q c : Nat), (binOp BinOp.eql 60 (.slice (some ⟨q, 0, none⟩) m c) (.slice none 0 0)).run Tryd.prog W = .ok (.bool false) W := fun W q c => Lib.run_eql_slice_nil W 60 _ _ m c 0 0 Tryd.underlying60
    obtain ⟨b1, hb1⟩ : ∃ b, keyB f = b := ⟨_, rfl⟩
    have HK := hid (fun W => kvI_is W hb1)
    obtain ⟨b2, hb2⟩ : ∃ b, pvB x.s x.a x.o = b := ⟨_, rfl⟩
    have HV := hid (fun W => pvI_is W hb2)
    cases b1
    · have HE := hid (ft_no (f := f) (x := x) (g := g) (fun h => by rw [hb1] at h; cases h.1))
      rw [HE.out]
      clear hg hus hm hb1 hb2 hA
      go_enter Tryd.func82, Tryd.ntmps82
      go_wp2_with (first | ((go_at_call 104; apply own_at hO; (repeat (first | (with_reducible exact hO) | (with_reducible apply Own.alloc) | (with_reducible apply Own.drew) | ((with_reducible apply Own.set_at); (focus (show _ ≤ _; omega))))); have hG := hF; clear hF; clear hO; intro hO; refine own_call_row hO (fun hB => HS.out _) ?_; clear hO; intro v w1 hO; (try simp only [World.size_alloc1, World.size_drew, Nat.reduceAdd] at hO); (try simp only [upd, updI, List.map_cons, List.map_nil, eq_self, if_true, if_false, reduceIte, Nat.add_eq_left, Nat.left_eq_add, Nat.reduceEqDiff, List.set_cons_zero, List.set_cons_succ, hG] at hO); clear hG; have hF := hO; (try simp only [Own, Item.Holds, apartI, CellsAt, Nat.reduceAdd, Nat.zero_add, List.mem_cons, List.not_mem_nil, or_false, forall_eq_or_imp, forall_eq, ne_eq, false_imp_iff, implies_true, and_true] at hF)); obtain ⟨q, cap, hq, hq1, hq2⟩ := hO.row_open m0; subst hq) | (go_at_call 59; apply own_at hO; (repeat (first | (with_reducible exact hO) | (with_reducible apply Own.alloc) | (with_reducible apply Own.drew) | ((with_reducible apply Own.set_at); (focus (show _ ≤ _; omega))))); have hG := hF; clear hF; clear hO; intro hO; refine own_call hO (fun hB => HK.out _) ?_; clear hO; intro w1 hO; (try simp only [World.size_alloc1, World.size_drew, Nat.reduceAdd] at hO); (try simp only [upd, updI, List.map_cons, List.map_nil, eq_self, if_true, if_false, reduceIte, Nat.add_eq_left, Nat.left_eq_add, Nat.reduceEqDiff, List.set_cons_zero, List.set_cons_succ, hG] at hO); clear hG; have hF := hO; (try simp only [Own, Item.Holds, apartI, CellsAt, Nat.reduceAdd, Nat.zero_add, List.mem_cons, List.not_mem_nil, or_false, forall_eq_or_imp, forall_eq, ne_eq, false_imp_iff, implies_true, and_true] at hF)))
      go_ret
      exact RowOut.mk (Own.nilRow 29 3 (by (repeat (first | (with_reducible exact hO) | (with_reducible apply Own.alloc) | (with_reducible apply Own.drew) | ((with_reducible apply Own.set_at); (focus (show _ ≤ _; omega)))))))
    · cases b2
      · have HE := hid (ft_no (f := f) (x := x) (g := g) (fun h => by rw [show pvP x = false from hb2] at h; cases h.2.1))
        rw [HE.out]
        clear hg hus hm hb1 hb2 hA
        go_enter Tryd.func82, Tryd.ntmps82
        go_wp2_with (first | ((go_at_call 104; apply own_at hO; (repeat (first | (with_reducible exact hO) | (with_reducible apply Own.alloc) | (with_reducible apply Own.drew) | ((with_reducible apply Own.set_at); (focus (show _ ≤ _; omega))))); have hG := hF; clear hF; clear hO; intro hO; refine own_call_row hO (fun hB => HS.out _) ?_; clear hO; intro v w1 hO; (try simp only [World.size_alloc1, World.size_drew, Nat.reduceAdd] at hO); (try simp only [upd, updI, List.map_cons, List.map_nil, eq_self, if_true, if_false, reduceIte, Nat.add_eq_left, Nat.left_eq_add, Nat.reduceEqDiff, List.set_cons_zero, List.set_cons_succ, hG] at hO); clear hG; have hF := hO; (try simp only [Own, Item.Holds, apartI, CellsAt, Nat.reduceAdd, Nat.zero_add, List.mem_cons, List.not_mem_nil, or_false, forall_eq_or_imp, forall_eq, ne_eq, false_imp_iff, implies_true, and_true] at hF)); obtain ⟨q, cap, hq, hq1, hq2⟩ := hO.row_open m0; subst hq) | (go_at_call 59; apply own_at hO; (repeat (first | (with_reducible exact hO) | (with_reducible apply Own.alloc) | (with_reducible apply Own.drew) | ((with_reducible apply Own.set_at); (focus (show _ ≤ _; omega))))); have hG := hF; clear hF; clear hO; intro hO; refine own_call hO (fun hB => HK.out _) ?_; clear hO; intro w1 hO; (try simp only [World.size_alloc1, World.size_drew, Nat.reduceAdd] at hO); (try simp only [upd, updI, List.map_cons, List.map_nil, eq_self, if_true, if_false, reduceIte, Nat.add_eq_left, Nat.left_eq_add, Nat.reduceEqDiff, List.set_cons_zero, List.set_cons_succ, hG] at hO); clear hG; have hF := hO; (try simp only [Own, Item.Holds, apartI, CellsAt, Nat.reduceAdd, Nat.zero_add, List.mem_cons, List.not_mem_nil, or_false, forall_eq_or_imp, forall_eq, ne_eq, false_imp_iff, implies_true, and_true] at hF)) | (go_at_call 60; apply own_at hO; (repeat (first | (with_reducible exact hO) | (with_reducible apply Own.alloc) | (with_reducible apply Own.drew) | ((with_reducible apply Own.set_at); (focus (show _ ≤ _; omega))))); have hG := hF; clear hF; clear hO; intro hO; refine own_call hO (fun hB => HV.out _) ?_; clear hO; intro w1 hO; (try simp only [World.size_alloc1, World.size_drew, Nat.reduceAdd] at hO); (try simp only [upd, updI, List.map_cons, List.map_nil, eq_self, if_true, if_false, reduceIte, Nat.add_eq_left, Nat.left_eq_add, Nat.reduceEqDiff, List.set_cons_zero, List.set_cons_succ, hG] at hO); clear hG; have hF := hO; (try simp only [Own, Item.Holds, apartI, CellsAt, Nat.reduceAdd, Nat.zero_add, List.mem_cons, List.not_mem_nil, or_false, forall_eq_or_imp, forall_eq, ne_eq, false_imp_iff, implies_true, and_true] at hF)))
        go_ret
        exact RowOut.mk (Own.nilRow 29 3 (by (repeat (first | (with_reducible exact hO) | (with_reducible apply Own.alloc) | (with_reducible apply Own.drew) | ((with_reducible apply Own.set_at); (focus (show _ ≤ _; omega)))))))
      · have hpx : pvP x = true := hb2
        have HX := hid hpx
        have HY := hid (fun (h4 : ∀ k ∈ us, pvP (ftT f x k) = true) => ft_yes (f := f) (x := x) (g := g) hb1 hb2 hg (by rw [hus]; exact h4))
        have HN := hid (fun (h4 : ¬ ∀ k ∈ us, pvP (ftT f x k) = true) => ft_no (f := f) (x := x) (g := g) (fun h => h4 (by rw [← hus]; exact h.2.2.2)))
        rw [hus] at HY
        obtain ⟨_, P0, P1⟩ := plZ_of hpx
        obtain ⟨P, hP⟩ : ∃ P, plZ x = P := ⟨_, rfl⟩
        rw [hP] at P0 P1
        have HP := hid (fun W => plI_ft hP W)
        have HT := hid (show ∀ k, ftT f x k = plP f (P + k) from fun k => by unfold ftT; rw [hP])
        have HKP := hid (fun (p s a o : Int) (p0 : 0 ≤ p) (p1 : p ≤ 1000) (h : plP f p = ⟨s, a, o⟩) W (hW : Below w.heap.size w W) => kpI_at hA hb1 p0 p1 h W hW)
        clear hg hus hm hb1 hb2 hpx hA hP
        go_enter Tryd.func82, Tryd.ntmps82
        go_wp2_with (first | ((go_at_call 104; apply own_at hO; (repeat (first | (with_reducible exact hO) | (with_reducible apply Own.alloc) | (with_reducible apply Own.drew) | ((with_reducible apply Own.set_at); (focus (show _ ≤ _; omega))))); have hG := hF; clear hF; clear hO; intro hO; refine own_call_row hO (fun hB => HS.out _) ?_; clear hO; intro v w1 hO; (try simp only [World.size_alloc1, World.size_drew, Nat.reduceAdd] at hO); (try simp only [upd, updI, List.map_cons, List.map_nil, eq_self, if_true, if_false, reduceIte, Nat.add_eq_left, Nat.left_eq_add, Nat.reduceEqDiff, List.set_cons_zero, List.set_cons_succ, hG] at hO); clear hG; have hF := hO; (try simp only [Own, Item.Holds, apartI, CellsAt, Nat.reduceAdd, Nat.zero_add, List.mem_cons, List.not_mem_nil, or_false, forall_eq_or_imp, forall_eq, ne_eq, false_imp_iff, implies_true, and_true] at hF)); obtain ⟨q, cap, hq, hq1, hq2⟩ := hO.row_open m0; subst hq) | (go_at_call 59; apply own_at hO; (repeat (first | (with_reducible exact hO) | (with_reducible apply Own.alloc) | (with_reducible apply Own.drew) | ((with_reducible apply Own.set_at); (focus (show _ ≤ _; omega))))); have hG := hF; clear hF; clear hO; intro hO; refine own_call hO (fun hB => HK.out _) ?_; clear hO; intro w1 hO; (try simp only [World.size_alloc1, World.size_drew, Nat.reduceAdd] at hO); (try simp only [upd, updI, List.map_cons, List.map_nil, eq_self, if_true, if_false, reduceIte, Nat.add_eq_left, Nat.left_eq_add, Nat.reduceEqDiff, List.set_cons_zero, List.set_cons_succ, hG] at hO); clear hG; have hF := hO; (try simp only [Own, Item.Holds, apartI, CellsAt, Nat.reduceAdd, Nat.zero_add, List.mem_cons, List.not_mem_nil, or_false, forall_eq_or_imp, forall_eq, ne_eq, false_imp_iff, implies_true, and_true] at hF)) | (go_at_call 60; apply own_at hO; (repeat (first | (with_reducible exact hO) | (with_reducible apply Own.alloc) | (with_reducible apply Own.drew) | ((with_reducible apply Own.set_at); (focus (show _ ≤ _; omega))))); have hG := hF; clear hF; clear hO; intro hO; refine own_call hO (fun hB => HV.out _) ?_; clear hO; intro w1 hO; (try simp only [World.size_alloc1, World.size_drew, Nat.reduceAdd] at hO); (try simp only [upd, updI, List.map_cons, List.map_nil, eq_self, if_true, if_false, reduceIte, Nat.add_eq_left, Nat.left_eq_add, Nat.reduceEqDiff, List.set_cons_zero, List.set_cons_succ, hG] at hO); clear hG; have hF := hO; (try simp only [Own, Item.Holds, apartI, CellsAt, Nat.reduceAdd, Nat.zero_add, List.mem_cons, List.not_mem_nil, or_false, forall_eq_or_imp, forall_eq, ne_eq, false_imp_iff, implies_true, and_true] at hF)))
        replace hO := hO.allocRow (e := 29) (cur := #[.int .i64 x.s, .int .i64 x.a, .int .i64 x.o]) (k := 1) (cap := 1) 3 (Nat.le_refl _) (by unfold maxLen; omega) rfl
        go_loopw [8, 29] (fun u t wr => ∃ j : Nat, j ≤ m ∧ t = .int .i64 j ∧ Own w.heap.size (Below w.heap.size w) wr [.row 29 3 u (j + 1) (pcC (x :: (us.take j).map (ftT f x))), .row 3 1 (.slice (some ⟨q, 0, none⟩) m cap) m (intC us), .blk w.heap.size [.int .i64 x.s, .int .i64 x.a, .int .i64 x.o]]) (fun _ t _ => m - (intOf t).toNat)
        case atStart => exact ⟨0, by omega, rfl, hO⟩
        case round =>
          clear hO hF
          obtain ⟨j, hj, rfl, hO⟩ := hrel
          have hF := hO; (try simp only [Own, Item.Holds, apartI, CellsAt, Nat.reduceAdd, Nat.zero_add, List.mem_cons, List.not_mem_nil, or_false, forall_eq_or_imp, forall_eq, ne_eq, false_imp_iff, implies_true, and_true] at hF)
          by_cases he : j = m
          · subst he
            have hlen : (x :: (us.take j).map (ftT f x)).length = j + 1 := by rw [List.length_cons, List.length_map, List.length_take, HM.out, Nat.min_self]
            have HTA := hid (show us.take j = us from List.take_of_length_le (by rw [HM.out]; omega))
            rw [HTA.out] at hlen hO
            obtain ⟨b, hb⟩ : ∃ b, ((x :: us.map (ftT f x)).all pvP && decide (j + 1 ≤ 12)) = b := ⟨_, rfl⟩
            have HL := hid (fun va W (hs : SlAt W va (j + 1) 3 (pcC (x :: us.map (ftT f x)))) => lvI_is hlen hs (by omega) hb W (Below.refl _ _))
            have HB := hid hb
            have HLN := hid hlen
            clear hlen hb
            cases b
            · have HE := hid (HN.out (fun h => by
                have := HB.out
                rw [(ft_all_iff HX.out).2 h] at this
                simp at this
                omega))
              go_wp2_with (go_at_call 92; apply own_at hO; (repeat (first | (with_reducible exact hO) | (with_reducible apply Own.alloc) | (with_reducible apply Own.drew) | ((with_reducible apply Own.set_at); (focus (show _ ≤ _; omega))))); have hG := hF; clear hF; clear hO; intro hO; refine own_callO hO (fun hW => HL.out _ _ (SlAt.of_row hW.1.1)) ?_; clear hO; intro w1 hO; (try simp only [World.size_alloc1, World.size_drew, Nat.reduceAdd] at hO); (try simp only [upd, updI, List.map_cons, List.map_nil, eq_self, if_true, if_false, reduceIte, Nat.add_eq_left, Nat.left_eq_add, Nat.reduceEqDiff, List.set_cons_zero, List.set_cons_succ, hG] at hO); clear hG; have hF := hO; (try simp only [Own, Item.Holds, apartI, CellsAt, Nat.reduceAdd, Nat.zero_add, List.mem_cons, List.not_mem_nil, or_false, forall_eq_or_imp, forall_eq, ne_eq, false_imp_iff, implies_true, and_true] at hF))
              go_ret
              rw [HE.out]
              exact RowOut.mk (Own.nilRow 29 3 (by (repeat (first | (with_reducible exact hO) | (with_reducible apply Own.alloc) | (with_reducible apply Own.drew) | ((with_reducible apply Own.set_at); (focus (show _ ≤ _; omega)))))))
            · have HE := hid (HY.out ((ft_all_iff HX.out).1 (by
                have := HB.out
                rw [Bool.and_eq_true] at this
                exact this.1)))
              go_wp2_with (go_at_call 92; apply own_at hO; (repeat (first | (with_reducible exact hO) | (with_reducible apply Own.alloc) | (with_reducible apply Own.drew) | ((with_reducible apply Own.set_at); (focus (show _ ≤ _; omega))))); have hG := hF; clear hF; clear hO; intro hO; refine own_callO hO (fun hW => HL.out _ _ (SlAt.of_row hW.1.1)) ?_; clear hO; intro w1 hO; (try simp only [World.size_alloc1, World.size_drew, Nat.reduceAdd] at hO); (try simp only [upd, updI, List.map_cons, List.map_nil, eq_self, if_true, if_false, reduceIte, Nat.add_eq_left, Nat.left_eq_add, Nat.reduceEqDiff, List.set_cons_zero, List.set_cons_succ, hG] at hO); clear hG; have hF := hO; (try simp only [Own, Item.Holds, apartI, CellsAt, Nat.reduceAdd, Nat.zero_add, List.mem_cons, List.not_mem_nil, or_false, forall_eq_or_imp, forall_eq, ne_eq, false_imp_iff, implies_true, and_true] at hF))
              go_ret
              rw [HE.out, HLN.out]
              exact RowOut.mk hO
          · have hjl : j < m := by omega
            have hjl2 : (j : Int) < m := by omega
            have hj0 : (0 : Int) ≤ (j : Int) := by omega
            obtain ⟨k, hk⟩ : ∃ k, us[j]? = some k := ⟨_, List.getElem?_eq_getElem (by have := HM.out; omega)⟩
            have hkb := HUB.out k (List.mem_of_getElem? hk)
            have c0 := inAt (SlAt.of_row hO.2.1.1) hk
            rw [Nat.zero_add] at c0
            obtain ⟨p, hp⟩ : ∃ p, P + k = p := ⟨_, rfl⟩
            have wp : IntKind.i64.wrap (P + k) = p := by rw [hp]; exact IntWalk.i64_in _ (by omega)
            obtain ⟨⟨s, a, o⟩, hT⟩ : ∃ y, plP f p = y := ⟨_, rfl⟩
            have HKK := hid (fun W hW => HKP.out p s a o (by omega) (by omega) hT W hW)
            have HC := hid (ft_take hk (show ftT f x k = ⟨s, a, o⟩ by rw [HT.out, hp, hT]))
            clear he hk hp hT hkb
            go_wp2_with (first | (go_at_call 106; apply own_at hO; (repeat (first | (with_reducible exact hO) | (with_reducible apply Own.alloc) | (with_reducible apply Own.drew) | ((with_reducible apply Own.set_at); (focus (show _ ≤ _; omega))))); have hG := hF; clear hF; clear hO; intro hO; refine own_call hO (fun hB => HP.out _) ?_; clear hO; intro w1 hO; (try simp only [World.size_alloc1, World.size_drew, Nat.reduceAdd] at hO); (try simp only [upd, updI, List.map_cons, List.map_nil, eq_self, if_true, if_false, reduceIte, Nat.add_eq_left, Nat.left_eq_add, Nat.reduceEqDiff, List.set_cons_zero, List.set_cons_succ, hG] at hO); clear hG; have hF := hO; (try simp only [Own, Item.Holds, apartI, CellsAt, Nat.reduceAdd, Nat.zero_add, List.mem_cons, List.not_mem_nil, or_false, forall_eq_or_imp, forall_eq, ne_eq, false_imp_iff, implies_true, and_true] at hF)) | (go_at_call 105; apply own_at hO; (repeat (first | (with_reducible exact hO) | (with_reducible apply Own.alloc) | (with_reducible apply Own.drew) | ((with_reducible apply Own.set_at); (focus (show _ ≤ _; omega))))); have hG := hF; clear hF; clear hO; intro hO; refine own_call hO (fun hB => HKK.out _ hB) ?_; clear hO; intro w1 hO; (try simp only [World.size_alloc1, World.size_drew, Nat.reduceAdd] at hO); (try simp only [upd, updI, List.map_cons, List.map_nil, eq_self, if_true, if_false, reduceIte, Nat.add_eq_left, Nat.left_eq_add, Nat.reduceEqDiff, List.set_cons_zero, List.set_cons_succ, hG] at hO); clear hG; have hF := hO; (try simp only [Own, Item.Holds, apartI, CellsAt, Nat.reduceAdd, Nat.zero_add, List.mem_cons, List.not_mem_nil, or_false, forall_eq_or_imp, forall_eq, ne_eq, false_imp_iff, implies_true, and_true] at hF)) | (at_builtin; apply own_list hO; (repeat (first | (with_reducible exact hO) | (with_reducible apply Own.alloc) | (with_reducible apply Own.drew) | ((with_reducible apply Own.set_at); (focus (show _ ≤ _; omega))))); have hG := hF; clear hF; clear hO; intro hO; (try simp only [World.size_alloc1, World.size_drew, Nat.reduceAdd] at hO); (try simp only [upd, updI, List.map_cons, List.map_nil, eq_self, if_true, if_false, reduceIte, Nat.add_eq_left, Nat.left_eq_add, Nat.reduceEqDiff, List.set_cons_zero, List.set_cons_succ, hG] at hO); clear hG; (try simp only [World.size_setCell] at hO); have hF := hO; (try simp only [Own, Item.Holds, apartI, CellsAt, Nat.reduceAdd, Nat.zero_add, List.mem_cons, List.not_mem_nil, or_false, forall_eq_or_imp, forall_eq, ne_eq, false_imp_iff, implies_true, and_true] at hF); replace hO := Own.sub (.cons_cons _ (.cons_cons _ (List.Sublist.refl _))) hO; refine wpList_append_item rfl _ _ 23 rfl 29 i0 (.agg #[.int .i64 0, .int .i64 0, .int .i64 0]) 3 24 Tryd.underlying23 hi hz0 hz1 hz2 rfl (by decide) rfl rfl hO rfl one3t (by unfold maxLen; omega) (by omega) ?_; clear hO hF; intro v' w2 hO _; have hF := True.intro))
            go_roundw
            case rel => exact ⟨j + 1, by omega, by go_num, by rw [← HC.out]; exact hO⟩
            case measure => simp [intOf]; omega
theorem ftI_C (w : World) (hA : TabA w) : CFt 82 w := fun f x g W hW _ _ _ => ftI_any f x g W (hA.below hW)
end Go.Proofs.YtfdglkiehkilnaaDoor
