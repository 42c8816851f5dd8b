/- ReadPitch in the model. -/
import Derived.Test.YtkdkmhidkaohoaaDoorWalksRead
import Derived.Test.YtkdkmhidkaohoaaDoorPureRead2
namespace Go.Proofs.YtkdkmhidkaohoaaDoor
set_option linter.unusedSimpArgs false
set_option linter.unusedVariables false
open Go.RowKit

/-- The two pitches of ReadPitch: the result's, still zero, and the one that is found, with what it holds. -/
def SP (w W : World) (x y z : Int) : Prop :=
  (W.cell? ⟨w.heap.size + 1, 0, none⟩ = some (.int .i64 x) ∧ W.cell? ⟨w.heap.size + 1, 1, none⟩ = some (.int .i64 y) ∧ W.cell? ⟨w.heap.size + 1, 2, none⟩ = some (.int .i64 z)) ∧
  (W.frozen? ⟨w.heap.size + 1, 0, none⟩ = false ∧ W.frozen? ⟨w.heap.size + 1, 1, none⟩ = false ∧ W.frozen? ⟨w.heap.size + 1, 2, none⟩ = false) ∧
  (W.cell? ⟨w.heap.size, 0, none⟩ = some (.int .i64 0) ∧ W.cell? ⟨w.heap.size, 1, none⟩ = some (.int .i64 0) ∧ W.cell? ⟨w.heap.size, 2, none⟩ = some (.int .i64 0)) ∧
  (W.frozen? ⟨w.heap.size, 0, none⟩ = false ∧ W.frozen? ⟨w.heap.size, 1, none⟩ = false ∧ W.frozen? ⟨w.heap.size, 2, none⟩ = false) ∧
  w.heap.size + 1 < W.heap.size ∧ Below w.heap.size w W

theorem SP.drewN {w W : World} {x y z : Int} (h : SP w W x y z) (n : Nat) : SP w (W.drewN n) x y z := ⟨h.1, h.2.1, h.2.2.1, h.2.2.2.1, h.2.2.2.2.1, below_drewN h.2.2.2.2.2 n⟩

theorem SP.set {w W : World} {x y z : Int} (h : SP w W x y z) (i : Nat) (v x' y' z' : Int) (hi : (i = 0 ∧ x' = v ∧ y' = y ∧ z' = z) ∨ (i = 1 ∧ x' = x ∧ y' = v ∧ z' = z) ∨ (i = 2 ∧ x' = x ∧ y' = y ∧ z' = v)) :
    SP w (W.setCell ⟨w.heap.size + 1, i, none⟩ (.int .i64 v)) x' y' z' := by
  obtain ⟨⟨c0, c1, c2⟩, ⟨f0, f1, f2⟩, ⟨r0, r1, r2⟩, ⟨s0, s1, s2⟩, hz, hb⟩ := h
  have hne : ∀ j, (⟨w.heap.size + 1, i, none⟩ : Addr) ≠ ⟨w.heap.size, j, none⟩ := fun j e => by have e2 := congrArg Addr.block e; simp at e2
  refine ⟨?_, ⟨by simpa using f0, by simpa using f1, by simpa using f2⟩, ⟨?_, ?_, ?_⟩, ⟨by simpa using s0, by simpa using s1, by simpa using s2⟩, by simpa using hz, hb.setCell (by show w.heap.size ≤ w.heap.size + 1; omega) _⟩
  · rcases hi with ⟨rfl, rfl, rfl, rfl⟩ | ⟨rfl, rfl, rfl, rfl⟩ | ⟨rfl, rfl, rfl, rfl⟩
    · exact ⟨World.cell?_setCell_same _ _ _ c0, by rw [World.cell?_setCell_other W ⟨w.heap.size + 1, 0, none⟩ _ _ (by simp), c1], by rw [World.cell?_setCell_other W ⟨w.heap.size + 1, 0, none⟩ _ _ (by simp), c2]⟩
    · exact ⟨by rw [World.cell?_setCell_other W ⟨w.heap.size + 1, 1, none⟩ _ _ (by simp), c0], World.cell?_setCell_same _ _ _ c1, by rw [World.cell?_setCell_other W ⟨w.heap.size + 1, 1, none⟩ _ _ (by simp), c2]⟩
    · exact ⟨by rw [World.cell?_setCell_other W ⟨w.heap.size + 1, 2, none⟩ _ _ (by simp), c0], by rw [World.cell?_setCell_other W ⟨w.heap.size + 1, 2, none⟩ _ _ (by simp), c1], World.cell?_setCell_same _ _ _ c2⟩
  · rw [World.cell?_setCell_other W _ _ _ (hne 0), r0]
  · rw [World.cell?_setCell_other W _ _ _ (hne 1), r1]
  · rw [World.cell?_setCell_other W _ _ _ (hne 2), r2]

theorem SP.below {w W W' : World} {x y z : Int} (h : SP w W x y z) (hb : Below W.heap.size W W') : SP w W' x y z := by
  obtain ⟨⟨c0, c1, c2⟩, ⟨f0, f1, f2⟩, ⟨r0, r1, r2⟩, ⟨s0, s1, s2⟩, hz, hB⟩ := h
  obtain ⟨hc, hf⟩ := bcell hb
  have hz2 : w.heap.size < W.heap.size := by omega
  exact ⟨⟨by rw [hc _ _ hz, c0], by rw [hc _ _ hz, c1], by rw [hc _ _ hz, c2]⟩, ⟨by rw [hf _ _ hz, f0], by rw [hf _ _ hz, f1], by rw [hf _ _ hz, f2]⟩, ⟨by rw [hc _ _ hz2, r0], by rw [hc _ _ hz2, r1], by rw [hc _ _ hz2, r2]⟩,
    ⟨by rw [hf _ _ hz2, s0], by rw [hf _ _ hz2, s1], by rw [hf _ _ hz2, s2]⟩, Nat.lt_of_lt_of_le hz hb.size, btr hB hb⟩

theorem SP.start (w : World) (t t' : TypeId) : SP w ((w.alloc (.cells #[.int .i64 0, .int .i64 0, .int .i64 0] t)).alloc (.cells #[.int .i64 (-1), .int .i64 0, .int .i64 0] t')) (-1) 0 0 := by
  have e : (w.alloc (.cells #[.int .i64 0, .int .i64 0, .int .i64 0] t)).heap.size = w.heap.size + 1 := by simp
  refine ⟨⟨?_, ?_, ?_⟩, ⟨?_, ?_, ?_⟩, ⟨?_, ?_, ?_⟩, ⟨?_, ?_, ?_⟩, by simp, below2 _ _⟩
  · rw [← e]; simp
  · rw [← e]; simp
  · rw [← e]; simp
  · exact World.frozen?_alloc_at _ _ _ _ (by simp)
  · exact World.frozen?_alloc_at _ _ _ _ (by simp)
  · exact World.frozen?_alloc_at _ _ _ _ (by simp)
  · rw [World.cell?_alloc_lt _ _ _ (by simp)]; simp
  · rw [World.cell?_alloc_lt _ _ _ (by simp)]; simp
  · rw [World.cell?_alloc_lt _ _ _ (by simp)]; simp
  · rw [((Below.refl (w.heap.size + 1) _).alloc (by simp) _).frozen (p := ⟨w.heap.size, 0, none⟩) (by simp)]; exact World.frozen?_alloc_at _ _ _ _ rfl
  · rw [((Below.refl (w.heap.size + 1) _).alloc (by simp) _).frozen (p := ⟨w.heap.size, 1, none⟩) (by simp)]; exact World.frozen?_alloc_at _ _ _ _ rfl
  · rw [((Below.refl (w.heap.size + 1) _).alloc (by simp) _).frozen (p := ⟨w.heap.size, 2, none⟩) (by simp)]; exact World.frozen?_alloc_at _ _ _ _ rfl

theorem letter_at (k : Int) (h0 : 0 ≤ k) (h6 : k ≤ 6) (W : World) : (Instr.index 9 (.string ⟨#[67, 68, 69, 70, 71, 65, 66]⟩) (.int .i64 k)).run Tryd.prog W = .ok (.int .u8 (ltZ k)) W := by
  rw [index_byte _ k h0 (by show k < 7; omega) W]
  rcases step7 h0 h6 with rfl | rfl | rfl | rfl | rfl | rfl | rfl <;> rfl

set_option maxHeartbeats 4000000 in
theorem readS_long (s : ByteArray) (w : World) (h : 0 < s.size) (hs : s.size ≤ maxLen) :
    Calls Tryd.prog 19 #[.string s] w (ReadOut s w) := by
  unfold maxLen at hs
  have hb0 := byZ_bd s 0
  have i0 : ∀ W, (Instr.index 9 (.string s) (.int .i64 0)).run Tryd.prog W = .ok (.int .u8 (byZ s 0)) W := index_byte s 0 (by omega) (by omega)
  have e1 : s.toList.isEmpty = false := by
    rw [ByteArray.toList_eq, List.isEmpty_eq_false_iff]
    intro e
    have hz : s.data.toList.length = s.size := Array.length_toList
    rw [e] at hz
    exact absurd hz (by show ¬ (0 = s.size); omega)
  have e2 : (s.toList == []) = false := by rw [← e1]; cases s.toList <;> rfl
  have e3 : ¬ s.toList = [] := by intro e; rw [e] at e1; cases e1
  go_enter Tryd.func19, Tryd.ntmps19
  go_wp2
  go_loopw [5] (fun t wr => ∃ k : Nat, k ≤ 7 ∧ t = .int .i64 k ∧ SP w wr (st1 s k) 0 0) (fun t _ => (7 - intOf t).toNat)
  case atStart => exact ⟨0, by omega, rfl, SP.start w _ _⟩
  case round =>
    obtain ⟨k, hk, rfl, hP⟩ := hrel
    by_cases hlt : k < 7
    · have hk7 : (k : Int) < 7 := by omega
      have hi := letter_at (k : Int) (by omega) (by omega)
      obtain ⟨⟨c0, c1, c2⟩, ⟨f0, f1, f2⟩, _, _, _, _⟩ := id hP
      by_cases he : ltZ k = byZ s 0
      · have hb : (ltZ k == byZ s 0) = true := by simp [he]
        have HE := hid he
        clear he
        go_wp2
        go_quiet (fail)
        go_wp2
        go_roundw
        case rel => exact ⟨k + 1, by omega, by go_num, by rw [show st1 s (k + 1) = k by rw [st1, if_pos HE.out]]; exact (hP.drewN _).set 0 k k 0 0 (Or.inl ⟨rfl, rfl, rfl, rfl⟩)⟩
        case measure => simp [intOf]; omega
      · have hb : (ltZ k == byZ s 0) = false := by simp [he]
        have HE := hid he
        clear he
        go_wp2
        go_quiet (fail)
        go_wp2
        go_roundw
        case rel => exact ⟨k + 1, by omega, by go_num, by rw [show st1 s (k + 1) = st1 s k by rw [st1, if_neg HE.out]]; exact hP.drewN _⟩
        case measure => simp [intOf]; omega
    · have hk7 : k = 7 := by omega
      subst hk7
      clear hlt hk
      have hmm : Hid (mm s = min s.size 5 - 1) := rfl
      go_wp2
      go_loopw [6] (fun t wr => ∃ j : Nat, j ≤ mm s ∧ t = .int .i64 ((j : Int) + 1) ∧ SP w wr (st1 s 7) (fA s j) (fO s j)) (fun t _ => (7 - intOf t).toNat)
      case atStart => exact ⟨0, by omega, rfl, hP⟩
      case round =>
        clear hP
        obtain ⟨j, hj, rfl, hP⟩ := hrel
        by_cases hlt : j < mm s
        · have hj1 : ((j : Int) + 1) < (s.size : Int) := by have := hmm.out; omega
          have hj2 : ((j : Int) + 1) < 5 := by have := hmm.out; omega
          have hi : ∀ W, (Instr.index 9 (.string s) (.int .i64 ((j : Int) + 1))).run Tryd.prog W = .ok (.int .u8 (byZ s (j + 1))) W := index_byte s ((j : Int) + 1) (by omega) hj1
          have hbb := byZ_bd s (j + 1)
          have hAb := fA_bd s j
          have hOb := fO_bd s j
          obtain ⟨⟨c0, c1, c2⟩, ⟨f0, f1, f2⟩, _, _, _, _⟩ := id hP
          by_cases h35 : byZ s (j + 1) = 35
          · have hb : (byZ s (j + 1) == 35) = true := by simp [h35]
            have HE := hid (show fA s (j + 1) = fA s j + 1 ∧ fO s (j + 1) = fO s j by rw [fA, fO, if_pos h35, if_pos h35]; exact ⟨rfl, rfl⟩)
            clear h35
            go_wp2
            go_roundw
            case rel => exact ⟨j + 1, by omega, by go_num, by rw [HE.out.1, HE.out.2]; exact hP.set 1 _ _ _ _ (Or.inr (Or.inl ⟨rfl, rfl, rfl, rfl⟩))⟩
            case measure => simp [intOf]; omega
          · have hb : (byZ s (j + 1) == 35) = false := by simp [h35]
            by_cases h98 : byZ s (j + 1) = 98
            · have hb2 : (byZ s (j + 1) == 98) = true := by simp [h98]
              have HE := hid (show fA s (j + 1) = fA s j - 1 ∧ fO s (j + 1) = fO s j by rw [fA, fO, if_neg h35, if_neg h35, if_pos h98, if_pos h98]; exact ⟨rfl, rfl⟩)
              clear h35 h98
              go_wp2
              go_roundw
              case rel => exact ⟨j + 1, by omega, by go_num, by rw [HE.out.1, HE.out.2]; exact hP.set 1 _ _ _ _ (Or.inr (Or.inl ⟨rfl, rfl, rfl, rfl⟩))⟩
              case measure => simp [intOf]; omega
            · have hb2 : (byZ s (j + 1) == 98) = false := by simp [h98]
              have HE := hid (show fA s (j + 1) = fA s j ∧ fO s (j + 1) = byZ s (j + 1) - 48 by rw [fA, fO, if_neg h35, if_neg h35, if_neg h98, if_neg h98]; exact ⟨rfl, rfl⟩)
              clear h35 h98
              go_wp2
              go_roundw
              case rel => exact ⟨j + 1, by omega, by go_num, by rw [HE.out.1, HE.out.2]; exact hP.set 2 _ _ _ _ (Or.inr (Or.inr ⟨rfl, rfl, rfl, rfl⟩))⟩
              case measure => simp [intOf]; omega
        · obtain rfl : j = mm s := by omega
          have hj1 : ¬ (((mm s : Nat) : Int) + 1 < (s.size : Int) ∧ ((mm s : Nat) : Int) + 1 < 5) := by have := hmm.out; omega
          have HF := hid (found h)
          clear hlt hj hb0 i0
          obtain ⟨⟨c0, c1, c2⟩, ⟨f0, f1, f2⟩, ⟨r0, r1, r2⟩, ⟨s0, s1, s2⟩, hz, hB⟩ := id hP
          by_cases ht : textB (st1 s 7) (fA s (mm s)) (fO s (mm s)) = s
          · have hbt := str_eq ht
            have HR := hid (HF.out.1 ht)
            clear ht
            by_cases hs5 : ((mm s : Nat) : Int) + 1 < (s.size : Int)
            all_goals
              go_wp2_with (go_at_call 16; refine (textS_any _ _ _ _).mono ?_; rintro e w1 ⟨rfl, hb⟩; have hP := hP.below hb; clear hb; obtain ⟨⟨c0, c1, c2⟩, ⟨f0, f1, f2⟩, ⟨r0, r1, r2⟩, ⟨s0, s1, s2⟩, hz, hB⟩ := id hP)
              refine bodyPost_ret (v := .tuple #[.agg #[.int .i64 (st1 s 7), .int .i64 (fA s (mm s)), .int .i64 (fO s (mm s))], .bool true]) (by simp [results, Tryd.results19, go_sem, r0, r1, r2]) rfl ⟨by rw [if_pos HR.out.1, HR.out.2.1, HR.out.2.2.1, HR.out.2.2.2], ?_⟩
              exact below_w3 hB _ _ _
          · have hbt := str_ne ht
            have HR := hid (HF.out.2 ht)
            clear ht
            by_cases hs5 : ((mm s : Nat) : Int) + 1 < (s.size : Int)
            all_goals
              go_wp2_with (go_at_call 16; refine (textS_any _ _ _ _).mono ?_; rintro e w1 ⟨rfl, hb⟩; have hP := hP.below hb; clear hb; obtain ⟨⟨c0, c1, c2⟩, ⟨f0, f1, f2⟩, ⟨r0, r1, r2⟩, ⟨s0, s1, s2⟩, hz, hB⟩ := id hP)
              refine bodyPost_ret (v := .tuple #[.agg #[.int .i64 0, .int .i64 0, .int .i64 0], .bool false]) (by simp [results, Tryd.results19, go_sem, r0, r1, r2]) rfl ⟨by rw [if_neg (by rw [HR.out]; decide)], ?_⟩
              exact below_w3 hB _ _ _

set_option maxHeartbeats 2000000 in
theorem readS_nil (w : World) :
    Calls Tryd.prog 19 #[.string ⟨#[]⟩] w (ReadOut ⟨#[]⟩ w) := by
  have hr : rdOk ⟨#[]⟩ = false := by decide
  have HR := hid hr
  clear hr
  go_enter Tryd.func19, Tryd.ntmps19
  go_wp2
  go_loop [5] (fun t => t = .int .i64 0) (fun _ => 0)
  case atStart => rfl
  case round =>
    subst hrel
    go_wp2
    go_loop [6] (fun t => t = .int .i64 1) (fun _ => 0)
    case atStart => rfl
    case round =>
      subst hrel
      go_wp2
      refine bodyPost_ret (v := .tuple #[.agg #[.int .i64 0, .int .i64 0, .int .i64 0], .bool false]) (by simp [results, Tryd.results19, go_sem]) rfl ⟨by rw [if_neg (by rw [HR.out]; decide)], ?_⟩
      exact below2 _ _

theorem readS_any (s : ByteArray) (w : World) (hs : s.size ≤ maxLen) : Calls Tryd.prog 19 #[.string s] w (ReadOut s w) := by
  by_cases h : s.size = 0
  · have e : s = ⟨#[]⟩ := by
      apply ByteArray.ext
      exact Array.eq_empty_of_size_eq_zero h
    subst e
    exact readS_nil w
  · exact readS_long s w (by omega) hs

theorem readI_any (s : ByteArray) (w : World) (hs : s.size ≤ maxLen) : Calls Tryd.prog 17 #[.string s] w (ReadOut s w) := by
  by_cases h : 2 ≤ s.size
  · exact readI_long s w h hs
  · refine (readI_short s w (by omega)).mono fun e w' ⟨he, hb⟩ => ⟨?_, hb⟩
    have : ¬ rdOk s = true := by simp [rdOk, h]
    rw [he, if_neg this]
end Go.Proofs.YtkdkmhidkaohoaaDoor
