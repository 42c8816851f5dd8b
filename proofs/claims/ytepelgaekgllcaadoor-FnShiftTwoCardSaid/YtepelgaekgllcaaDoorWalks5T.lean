/- Chapter 5 in the model: turned voices. -/
import Derived.Test.YtepelgaekgllcaaDoorWalks5N
namespace Go.Proofs.YtepelgaekgllcaaDoor
set_option linter.unusedSimpArgs false
set_option linter.unusedVariables false
open Go.RowKit

/-- What TurnVoice hands back. -/
def ttL (v : List Nt) : List Nt := if voB v then tuL v else []
/-- As Own.alloc, the block's number reckoned. -/
theorem Own.allocAt {n b : Nat} {B : World → Prop} {w : World} {t : TypeId} {vs : List Value} {L : List Item} (hb : w.heap.size = b) (h : Own n B w L) : Own n B (w.alloc (.cells vs.toArray t)) (.blk b vs :: L) := by
  subst hb; exact h.alloc
theorem one6g {r y : Bool} {s a o t : Int} : ∀ u ∈ [Value.bool r, .int .i64 s, .int .i64 a, .int .i64 o, .int .i64 t, .bool y], u.oneCell' = true := by
  intro u hu
  simp at hu
  rcases hu with rfl | rfl | rfl | rfl | rfl | rfl <;> rfl
theorem tuL_len (v : List Nt) : (tuL v).length = v.length := tuF_len v false
theorem tuL_up {v : List Nt} {j : Nat} {x : Nt} (hx : (tuL v)[j]? = some x) : (tuL v).take j ++ [x] = (tuL v).take (j + 1) := by
  rw [List.take_add_one, hx]; rfl
theorem tuL_at0 {v : List Nt} {j : Nat} {x : Nt} (hx : v[0]? = some x) (hj : j + 1 = v.length) : (tuL v)[j]? = some { x with y := false } :=
  (tuF_get v false 0 j x hx (by omega)).1 rfl
theorem tuL_at1 {v : List Nt} {j i : Nat} {x z : Nt} (hx : v[i + 1]? = some x) (hz : v[i]? = some z) (hj : i + 1 + j + 1 = v.length) : (tuL v)[j]? = some { x with y := z.y } :=
  (tuF_get v false (i + 1) j x hx hj).2 i z rfl hz

set_option maxHeartbeats 8000000 in
theorem tvS_yes (va : Value) (v : List Nt) (n : Nat) (w : World) (hnl : v.length = n) (ha : SlAt w va n 6 (vcC v)) (hv : voB v = true) :
    Calls Tryd.prog 35 #[va] w (RowOut 26 6 n (vcC (tuL v)) w) := by
  have hO := Own.start w
  have hF := True.intro
  obtain ⟨i0, hi, hz0, hz1, hz2⟩ := info_parts infoN
  obtain ⟨A, c, rfl, nb, hA⟩ := ha.open
  have HA := hid ha
  have HN := hid hnl
  have hn60 : n ≤ 60 := by have := (voB_iff.1 hv).2; omega
  have HV := hid (voS_is hnl ha (by omega) hv)
  have w0 : IntKind.i64.wrap ((n : Int) - 1) = (n : Int) - 1 := IntWalk.i64_in _ (by omega)
  clear ha hnl hv
  go_enter Tryd.func35, Tryd.ntmps35
  go_wp2_with fail
  go_loopw [3, 4] (fun u t wr => ∃ j : Nat, j ≤ n ∧ t = .int .i64 ((n : Int) - 1 - j) ∧ Own w.heap.size (Below w.heap.size w) wr [.row 26 6 u j (vcC ((tuL v).take j))]) (fun _ t _ => (intOf t + 1).toNat)
  case atStart => exact ⟨0, by omega, by simp, hO.allocRow (cur := #[]) (k := 0) (cap := 0) 6 (by omega) (by unfold maxLen; omega) rfl⟩
  case round =>
    clear hO hF
    obtain ⟨j, hj, rfl, hO⟩ := hrel
    have hF := True.intro
    by_cases he : j = n
    · subst he
      have e1 : (tuL v).take j = tuL v := List.take_of_length_le (by rw [tuL_len]; have := HN.out; omega)
      rw [e1] at hO
      have w1 : (j : Int) - 1 - j = -1 := by omega
      rw [w1]
      go_wp2_with fail
      go_ret
      exact RowOut.mk hO
    · obtain ⟨i, hin⟩ : ∃ i : Nat, i + j + 1 = n := ⟨n - 1 - j, by omega⟩
      have hidx : (n : Int) - 1 - j = (i : Int) := by omega
      rw [hidx]
      have hlt : i < n := by omega
      have hlt2 : (i : Int) < n := by omega
      have i0' : (0 : Int) ≤ i := by omega
      obtain ⟨b, off, rfl, hc1, hc2, hb⟩ := hA (by omega)
      obtain ⟨x, hx⟩ : ∃ x, v[i]? = some x := ⟨_, List.getElem?_eq_getElem (by have := HN.out; omega)⟩
      have HX := hid hx
      have HIDX := hid hidx
      have HJ := hid hin
      clear he hidx
      by_cases hi0 : i = 0
      · subst hi0
        have HT := hid (tuL_up (tuL_at0 (j := j) hx (by have := HN.out; omega)))
        clear hx hin
        go_wp2_with (first | ((go_at_call 18; apply own_at hO; (repeat (first | (with_reducible exact hO) | (with_reducible apply Own.alloc) | (with_reducible apply Own.drew) | ((with_reducible apply Own.set_at); (focus (show _ ≤ _; omega))))); have hG := hF; clear hF; clear hO; intro hO; refine own_call hO (fun hB => HV.out _ hB) ?_; clear hO; intro w1 hO; (try simp only [World.size_alloc1, World.size_drew, Nat.reduceAdd] at hO); (try simp only [upd, updI, List.map_cons, List.map_nil, eq_self, if_true, if_false, reduceIte, Nat.add_eq_left, Nat.left_eq_add, Nat.reduceEqDiff, List.set_cons_zero, List.set_cons_succ, hG] at hO); clear hG; have hF := hO; (try simp only [Own, Item.Holds, apartI, CellsAt, Nat.reduceAdd, Nat.zero_add, List.mem_cons, List.not_mem_nil, or_false, forall_eq_or_imp, forall_eq, ne_eq, false_imp_iff, implies_true, and_true] at hF)); have ⟨d0, d1, d2, d3, d4, d5⟩ := noteAt (HA.out.below hO.base) HX.out; simp only [Nat.zero_mul, Nat.add_zero] at d0 d1 d2 d3 d4 d5) | (at_builtin; refine wpList_append_item rfl _ _ 31 rfl 26 i0 (.agg #[.bool false, .int .i64 0, .int .i64 0, .int .i64 0, .int .i64 0, .bool false]) 6 48 Tryd.underlying31 hi hz0 hz1 hz2 rfl (by decide) rfl rfl (Own.allocAt (World.size_alloc1 _ _) (Own.drop (Own.alloc hO))) rfl one6g (by unfold maxLen; omega) (by omega) ?_; clear hO d0 d1 d2 d3 d4 d5; intro v' w3 hO _))
        go_roundw
        case rel => exact ⟨j + 1, by have := HJ.out; omega, by have := HJ.out; have e : (n : Int) - 1 - ((j + 1 : Nat) : Int) = -1 := (by omega); rw [e], by rw [← HT.out, ← vcC_snoc]; exact hO⟩
        case measure => first | (simp [intOf]; done) | (simp [intOf]; omega)
      · obtain ⟨p, rfl⟩ : ∃ p, i = p + 1 := ⟨i - 1, by omega⟩
        obtain ⟨z, hz⟩ : ∃ z, v[p]? = some z := ⟨_, List.getElem?_eq_getElem (by have := HN.out; omega)⟩
        have HZ := hid hz
        have HT := hid (tuL_up (tuL_at1 (j := j) hx hz (by have := HN.out; omega)))
        have p0 : (0 : Int) ≤ (p : Int) + 1 := by omega
        have p1 : (0 : Int) < (p : Int) + 1 := by omega
        have p2 : (0 : Int) ≤ (p : Int) := by omega
        have p3 : (p : Int) < n := by omega
        have w1 : IntKind.i64.wrap (p : Int) = (p : Int) := IntWalk.i64_in _ (by omega)
        clear hx hin hz hi0
        push_cast at hlt2 ⊢
        go_wp2_with (first | ((go_at_call 18; apply own_at hO; (repeat (first | (with_reducible exact hO) | (with_reducible apply Own.alloc) | (with_reducible apply Own.drew) | ((with_reducible apply Own.set_at); (focus (show _ ≤ _; omega))))); have hG := hF; clear hF; clear hO; intro hO; refine own_call hO (fun hB => HV.out _ hB) ?_; clear hO; intro w1 hO; (try simp only [World.size_alloc1, World.size_drew, Nat.reduceAdd] at hO); (try simp only [upd, updI, List.map_cons, List.map_nil, eq_self, if_true, if_false, reduceIte, Nat.add_eq_left, Nat.left_eq_add, Nat.reduceEqDiff, List.set_cons_zero, List.set_cons_succ, hG] at hO); clear hG; have hF := hO; (try simp only [Own, Item.Holds, apartI, CellsAt, Nat.reduceAdd, Nat.zero_add, List.mem_cons, List.not_mem_nil, or_false, forall_eq_or_imp, forall_eq, ne_eq, false_imp_iff, implies_true, and_true] at hF)); have ⟨d0, d1, d2, d3, d4, d5⟩ := noteAt (HA.out.below hO.base) HX.out; have ⟨g0, g1, g2, g3, g4, g5⟩ := noteAt (HA.out.below hO.base) HZ.out; have hbw := Nat.lt_of_lt_of_le hb hO.base.size) | (at_builtin; refine wpList_append_item rfl _ _ 31 rfl 26 i0 (.agg #[.bool false, .int .i64 0, .int .i64 0, .int .i64 0, .int .i64 0, .bool false]) 6 48 Tryd.underlying31 hi hz0 hz1 hz2 rfl (by decide) rfl rfl (Own.allocAt (World.size_alloc1 _ _) (Own.drop (Own.alloc hO))) rfl one6g (by unfold maxLen; omega) (by omega) ?_; clear hO g0 g1 g2 g3 g4 g5 d0 d1 d2 d3 d4 d5; intro v' w3 hO _))
        go_roundw
        case rel => exact ⟨j + 1, by have := HJ.out; omega, by have := HJ.out; have e : (n : Int) - 1 - ((j + 1 : Nat) : Int) = (p : Int) := (by omega); rw [e], by rw [← HT.out, ← vcC_snoc]; exact hO⟩
        case measure => first | (simp [intOf]; done) | (simp [intOf]; omega)

theorem tvS_no (va : Value) (v : List Nt) (n : Nat) (w : World) (hnl : v.length = n) (hn : n ≤ 1048576) (ha : SlAt w va n 6 (vcC v)) (hv : voB v = false) :
    Calls Tryd.prog 35 #[va] w (RowOut 26 6 0 [] w) := by
  have hO := Own.start w
  have hF := True.intro
  obtain ⟨A, c, rfl, nb, hA⟩ := ha.open
  have HV := hid (voS_is hnl ha hn hv)
  have n0 : (0 : Int) ≤ (n : Int) - 1 := by
    by_cases h : n = 0
    · obtain rfl : v = [] := List.eq_nil_of_length_eq_zero (by omega)
      cases hv
    · omega
  have w0 : IntKind.i64.wrap ((n : Int) - 1) = (n : Int) - 1 := IntWalk.i64_in _ (by omega)
  clear ha hnl hv
  go_enter Tryd.func35, Tryd.ntmps35
  go_wp2_with fail
  go_loopw [3, 4] (fun u t wr => t = .int .i64 ((n : Int) - 1) ∧ Own w.heap.size (Below w.heap.size w) wr [.row 26 6 u 0 []]) (fun _ _ _ => 0)
  case atStart => exact ⟨rfl, hO.allocRow (cur := #[]) (k := 0) (cap := 0) 6 (by omega) (by unfold maxLen; omega) rfl⟩
  case round =>
    clear hO hF
    obtain ⟨rfl, hO⟩ := hrel
    have hF := True.intro
    go_wp2_with (go_at_call 18; apply own_at hO; (repeat (first | (with_reducible exact hO) | (with_reducible apply Own.alloc) | (with_reducible apply Own.drew) | ((with_reducible apply Own.set_at); (focus (show _ ≤ _; omega))))); have hG := hF; clear hF; clear hO; intro hO; refine own_call hO (fun hB => HV.out _ hB) ?_; clear hO; intro w1 hO; (try simp only [World.size_alloc1, World.size_drew, Nat.reduceAdd] at hO); (try simp only [upd, updI, List.map_cons, List.map_nil, eq_self, if_true, if_false, reduceIte, Nat.add_eq_left, Nat.left_eq_add, Nat.reduceEqDiff, List.set_cons_zero, List.set_cons_succ, hG] at hO); clear hG; have hF := hO; (try simp only [Own, Item.Holds, apartI, CellsAt, Nat.reduceAdd, Nat.zero_add, List.mem_cons, List.not_mem_nil, or_false, forall_eq_or_imp, forall_eq, ne_eq, false_imp_iff, implies_true, and_true] at hF))
    go_ret
    exact RowOut.mk hO

theorem tvS_any (va : Value) (v : List Nt) (w : World) (ha : SlAt w va v.length 6 (vcC v)) (hn : v.length ≤ 1048576) :
    Calls Tryd.prog 35 #[va] w (RowOut 26 6 (ttL v).length (vcC (ttL v)) w) := by
  unfold ttL
  cases hv : voB v
  · exact tvS_no va v _ w rfl hn ha hv
  · have := tvS_yes va v _ w rfl ha hv
    rwa [← tuL_len v] at this
end Go.Proofs.YtepelgaekgllcaaDoor
