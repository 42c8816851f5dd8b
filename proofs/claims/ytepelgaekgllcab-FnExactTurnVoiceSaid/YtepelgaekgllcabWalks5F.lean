/- Chapter 5 in the program: turned voices. -/
import Derived.Test.YtepelgaekgllcabWalks5A
import Derived.Test.YtepelgaekgllcabOwnMake
namespace Go.Proofs.Ytepelgaekgllcab
set_option linter.unusedSimpArgs false
set_option linter.unusedVariables false
open Go.RowKit

/-- The last j notes are laid, the others are zero. -/
def rmx (v : List Nt) (j : Nat) : List Nt := List.replicate (v.length - j) nt0 ++ (tuL v).drop (v.length - j)
theorem rmx_zero (v : List Nt) : rmx v 0 = List.replicate v.length nt0 := by
  unfold rmx
  rw [List.drop_eq_nil_of_le (by rw [tuL_len]; omega)]; simp
theorem rmx_full (v : List Nt) : rmx v v.length = tuL v := by simp [rmx]
theorem rmx_len (v : List Nt) (j : Nat) (h : j ≤ v.length) : (rmx v j).length = v.length := by simp [rmx, tuL_len]
theorem rmx_put {v : List Nt} {i j : Nat} {x : Nt} (hij : i + j + 1 = v.length) (hx : (tuL v)[i]? = some x) :
    ((((((vcC (rmx v j)).set (i * 6) (.bool x.r)).set (i * 6 + 1) (.int .i64 x.s)).set (i * 6 + 2) (.int .i64 x.a)).set (i * 6 + 3) (.int .i64 x.o)).set (i * 6 + 4) (.int .i64 x.t)).set (i * 6 + 5) (.bool x.y) = vcC (rmx v (j + 1)) := by
  unfold rmx
  rw [show v.length - j = i + 1 by omega, show v.length - (j + 1) = i by omega, List.replicate_succ', List.append_assoc, List.singleton_append, vcC_put (by simp), drop_at hx]

set_option maxHeartbeats 8000000 in
theorem tvI_yes (va : Value) (v : List Nt) (n : Nat) (w : World) (hnl : v.length = n) (ha : SlAt w va n 6 (vcC v)) (hv : voB v = true) :
    Calls Try.prog 16 #[va] w (RowOut 35 6 n (vcC (tuL v)) w) := by
  have hO := Own.start w
  have hF := True.intro
  obtain ⟨i0, hi, hz0, hz1, hz2⟩ := info_parts infoN
  obtain ⟨A, c, rfl, nb, hA⟩ := ha.open
  have HA := hid ha
  have HN := hid hnl
  have hn60 : n ≤ 60 := by have := (voB_iff.1 hv).2; omega
  have HV := hid (voI_is hnl ha (by omega) hv)
  clear ha hnl hv
  go_enter Try.func16, Try.ntmps16
  go_wp2_with (first | (go_at_call 19; apply own_at hO; (repeat (first | (with_reducible exact hO) | (with_reducible apply Own.alloc) | (with_reducible apply Own.drew) | ((with_reducible apply Own.set_at); (focus (show _ ≤ _; omega))))); have hG := hF; clear hF; clear hO; intro hO; refine own_call hO (fun hB => HV.out _ hB) ?_; clear hO; intro w1 hO; (try simp only [World.size_alloc1, World.size_drew, Nat.reduceAdd] at hO); (try simp only [upd, updI, List.map_cons, List.map_nil, eq_self, if_true, if_false, reduceIte, Nat.add_eq_left, Nat.left_eq_add, Nat.reduceEqDiff, List.set_cons_zero, List.set_cons_succ, hG] at hO); clear hG; have hF := hO; (try simp only [Own, Item.Holds, apartI, CellsAt, Nat.reduceAdd, Nat.zero_add, List.mem_cons, List.not_mem_nil, or_false, forall_eq_or_imp, forall_eq, ne_eq, false_imp_iff, implies_true, and_true] at hF)) | (at_make; go_loud (refine wpList_make_item rfl _ _ 25 rfl 35 i0 (.agg #[.bool false, .int .i64 0, .int .i64 0, .int .i64 0, .int .i64 0, .bool false]) 6 48 Try.underlying25 hi hz0 hz1 hz2 _ _ _ _ n rfl rfl rfl rfl (by omega) (by unfold maxLen; omega) hO ?_); clear hO hF; intro q w2 hO; have hF := True.intro))
  rw [madeN n, show List.replicate n nt0 = rmx v 0 by rw [rmx_zero, HN.out]] at hO
  go_loopw [14] (fun t wr => ∃ j : Nat, j ≤ n ∧ t = .int .i64 j ∧ Own w.heap.size (Below w.heap.size w) wr [.row 35 6 (.slice (some ⟨q, 0, none⟩) n n) n (vcC (rmx v j))]) (fun t _ => n - (intOf t).toNat)
  case atStart => exact ⟨0, by omega, rfl, hO⟩
  case round =>
    clear hO hF
    obtain ⟨j, hj, rfl, hO⟩ := hrel
    have hF := True.intro
    by_cases he : j = n
    · subst he
      rw [show rmx v j = tuL v by rw [← HN.out]; exact rmx_full v] at hO
      go_wp2_with fail
      go_ret
      exact RowOut.mk hO
    · have hlt : j < n := by omega
      have hlt2 : (j : Int) < n := by omega
      obtain ⟨b, off, rfl, hc1, hc2, hb⟩ := hA (by omega)
      obtain ⟨i, hij⟩ : ∃ i, i + j + 1 = n := ⟨n - 1 - j, by omega⟩
      obtain ⟨x, hx⟩ : ∃ x, v[j]? = some x := ⟨_, List.getElem?_eq_getElem (by have := HN.out; omega)⟩
      obtain ⟨z, hz⟩ : ∃ z, (rmx v j)[i]? = some z := ⟨_, List.getElem?_eq_getElem (by rw [rmx_len v j (by have := HN.out; omega)]; have := HN.out; omega)⟩
      obtain ⟨d0, d1, d2, d3, d4, d5⟩ := noteAt (HA.out.below hO.base) hx
      obtain ⟨E0, E1, E2, E3, E4, E5⟩ := vcC_at hz
      have c0 := hO.row_cell E0
      have c1 := hO.row_cell E1
      have c2 := hO.row_cell E2
      have c3 := hO.row_cell E3
      have c4 := hO.row_cell E4
      have c5 := hO.row_cell E5
      have r0 := hO.row_free (i * 6)
      have r1 := hO.row_free (i * 6 + 1)
      have r2 := hO.row_free (i * 6 + 2)
      have r3 := hO.row_free (i * 6 + 3)
      have r4 := hO.row_free (i * 6 + 4)
      have r5 := hO.row_free (i * 6 + 5)
      have hq : q < wr.heap.size := ((Item.Holds.lt (x := .row _ _ _ _ _) hO.1.1) q rfl).2
      have hbw : b < wr.heap.size := Nat.lt_of_lt_of_le hb hO.base.size
      have w0 : IntKind.i64.wrap ((n : Int) - 1) = (n : Int) - 1 := IntWalk.i64_in _ (by omega)
      have w1 : IntKind.i64.wrap ((n : Int) - 1 - (j : Int)) = (i : Int) := by rw [show (n : Int) - 1 - j = i by omega]; exact IntWalk.i64_in _ (by omega)
      have i0' : (0 : Int) ≤ i := by omega
      have i1 : (i : Int) < n := by omega
      have HX := hid hx
      have HIJ := hid (And.intro hij hlt)
      cases j with
      | zero =>
        have HP := hid (show ((((((vcC (rmx v 0)).set (i * 6) (.bool x.r)).set (i * 6 + 1) (.int .i64 x.s)).set (i * 6 + 2) (.int .i64 x.a)).set (i * 6 + 3) (.int .i64 x.o)).set (i * 6 + 4) (.int .i64 x.t)).set (i * 6 + 5) (.bool false) = vcC (rmx v (0 + 1)) from rmx_put (x := { x with y := false }) (by have := HN.out; omega) (tuL_at0 hx (by have := HN.out; omega)))
        simp only [Nat.zero_mul, Nat.add_zero] at d0 d1 d2 d3 d4 d5
        obtain rfl : i = n - 1 := by omega
        clear he hx hij E0 E1 E2 E3 E4 E5 hz hA hj hlt w1 i0' i1
        rw [show ((0 : Nat) : Int) = 0 from rfl] at hlt2 ⊢
        have n1 : (0 : Int) ≤ (n : Int) - 1 := by omega
        have n2 : (n : Int) - 1 < n := by omega
        go_wp2_with fail
        go_roundw
        case rel =>
          refine ⟨0 + 1, by have := HIJ.out; omega, by go_num, ?_⟩
          rw [← HP.out]
          exact Own.drop (Own.alloc ((((((hO.row_set ((n - 1) * 6) _).row_set ((n - 1) * 6 + 1) _).row_set ((n - 1) * 6 + 2) _).row_set ((n - 1) * 6 + 3) _).row_set ((n - 1) * 6 + 4) _).row_set ((n - 1) * 6 + 5) _))
        case measure => have := HIJ.out; simp [intOf]; omega
      | succ p =>
        obtain ⟨y, hy⟩ : ∃ y, v[p]? = some y := ⟨_, List.getElem?_eq_getElem (by have := HN.out; omega)⟩
        have HP := hid (show ((((((vcC (rmx v (p + 1))).set (i * 6) (.bool x.r)).set (i * 6 + 1) (.int .i64 x.s)).set (i * 6 + 2) (.int .i64 x.a)).set (i * 6 + 3) (.int .i64 x.o)).set (i * 6 + 4) (.int .i64 x.t)).set (i * 6 + 5) (.bool y.y) = vcC (rmx v (p + 1 + 1)) from rmx_put (x := { x with y := y.y }) (by have := HN.out; omega) (tuL_at1 hx hy (by have := HN.out; omega)))
        obtain ⟨g0, g1, g2, g3, g4, g5⟩ := noteAt (HA.out.below hO.base) hy
        have p0 : (0 : Int) ≤ (p : Int) + 1 := by omega
        have p1 : (0 : Int) < (p : Int) + 1 := by omega
        have p2 : (0 : Int) ≤ (p : Int) := by omega
        have p3 : (p : Int) < n := by omega
        have w2 : IntKind.i64.wrap ((p : Int) + 1 - 1) = (p : Int) := by rw [show (p : Int) + 1 - 1 = p by omega]; exact IntWalk.i64_in _ (by omega)
        clear he hx hij E0 E1 E2 E3 E4 E5 hz hy hA hj hlt
        push_cast at hlt2 w1 ⊢
        go_wp2_with fail
        go_roundw
        case rel =>
          refine ⟨p + 1 + 1, by have := HIJ.out; omega, by go_num, ?_⟩
          rw [← HP.out]
          exact Own.drop (Own.alloc ((((((hO.row_set (i * 6) _).row_set (i * 6 + 1) _).row_set (i * 6 + 2) _).row_set (i * 6 + 3) _).row_set (i * 6 + 4) _).row_set (i * 6 + 5) _))
        case measure => have := HIJ.out; simp [intOf]; omega

theorem tvI_no (va : Value) (v : List Nt) (n : Nat) (w : World) (hnl : v.length = n) (hn : n ≤ 1048576) (ha : SlAt w va n 6 (vcC v)) (hv : voB v = false) :
    Calls Try.prog 16 #[va] w (RowOut 35 6 0 [] w) := by
  have hO := (Own.start w).nilRow 35 6
  have hF := True.intro
  have HV := hid (voI_is hnl ha hn hv)
  clear ha hnl hv
  go_enter Try.func16, Try.ntmps16
  go_wp2_with (go_at_call 19; apply own_at hO; (repeat (first | (with_reducible exact hO) | (with_reducible apply Own.alloc) | (with_reducible apply Own.drew) | ((with_reducible apply Own.set_at); (focus (show _ ≤ _; omega))))); have hG := hF; clear hF; clear hO; intro hO; refine own_call hO (fun hB => HV.out _ hB) ?_; clear hO; intro w1 hO; (try simp only [World.size_alloc1, World.size_drew, Nat.reduceAdd] at hO); (try simp only [upd, updI, List.map_cons, List.map_nil, eq_self, if_true, if_false, reduceIte, Nat.add_eq_left, Nat.left_eq_add, Nat.reduceEqDiff, List.set_cons_zero, List.set_cons_succ, hG] at hO); clear hG; have hF := hO; (try simp only [Own, Item.Holds, apartI, CellsAt, Nat.reduceAdd, Nat.zero_add, List.mem_cons, List.not_mem_nil, or_false, forall_eq_or_imp, forall_eq, ne_eq, false_imp_iff, implies_true, and_true] at hF))
  go_ret
  exact RowOut.mk hO

theorem tvI_any (va : Value) (v : List Nt) (w : World) (ha : SlAt w va v.length 6 (vcC v)) (hn : v.length ≤ 1048576) :
    Calls Try.prog 16 #[va] w (RowOut 35 6 (ttL v).length (vcC (ttL v)) w) := by
  unfold ttL
  cases hv : voB v
  · exact tvI_no va v _ w rfl hn ha hv
  · have := tvI_yes va v _ w rfl ha hv
    rwa [← tuL_len v] at this

theorem tvI_C (w : World) : CRow 16 ttL w := fun va v W _ hs hn => tvI_any va v W hs hn
end Go.Proofs.Ytepelgaekgllcab
