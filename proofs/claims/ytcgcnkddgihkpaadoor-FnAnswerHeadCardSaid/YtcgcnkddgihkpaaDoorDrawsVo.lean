/- l20Voice: a voice is drawn. -/
import Derived.Test.YtcgcnkddgihkpaaDoorDrawsNt
import Derived.Test.YtcgcnkddgihkpaaDoorWalks5N
import Derived.Test.YtcgcnkddgihkpaaDoorDrawBase
namespace Go.Proofs.YtcgcnkddgihkpaaDoor
set_option linter.unusedSimpArgs false
set_option linter.unusedVariables false
set_option maxRecDepth 8000
open Go.RowKit

theorem one6v {r y : Bool} {s a o t : Int} : ∀ u ∈ [Value.bool r, .int .i64 s, .int .i64 a, .int .i64 o, .int .i64 t, .bool y], u.oneCell' = true := by
  intro u hu
  simp at hu
  rcases hu with rfl | rfl | rfl | rfl | rfl | rfl <;> rfl
/-- What drawing a voice leaves. -/
def DrewVo (r : Nat) (P : Int) (w : World) (e : Ending) (w' : World) : Prop :=
  ∃ (u : Value) (v : List Nt), (∀ x ∈ v, ntOk x) ∧ v.length ≤ 61 ∧ e = .returned u ∧ w'.ownsRow w.heap.size 39 6 u v.length (vcC v) ∧ Rd w' r (P + 500) ∧ ButR r w w'
theorem DrewVo.mk {r : Nat} {P Q : Int} {w w' : World} {u : Value} {v : List Nt} {L : List Item} (hO : Own w.heap.size (Bd r w Q) w' (.row 39 6 u v.length (vcC v) :: L)) (hQ : Q ≤ P + 500) (hv : ∀ x ∈ v, ntOk x) (hl : v.length ≤ 61) : DrewVo r P w (.returned u) w' :=
  ⟨u, v, hv, hl, rfl, hO.1.1, hO.base.2.mono hQ, hO.base.1⟩
/-- The length of a slice. -/
def lenOf : Value → Nat
  | .slice _ n _ => n
  | _ => 0
theorem all_snoc {v : List Nt} {x : Nt} (hv : ∀ z ∈ v, ntOk z) (hx : ntOk x) : ∀ z ∈ v ++ [x], ntOk z := fun z hz => by
  rcases List.mem_append.1 hz with h | h
  · exact hv z h
  · simp at h; subst h; exact hx
theorem split_last {v : List Nt} {k : Nat} (hk : v.length = k + 1) : ∃ p z, v = p ++ [z] ∧ p.length = k := by
  refine ⟨v.dropLast, v.getLast (by intro h; rw [h] at hk; simp at hk), (List.dropLast_concat_getLast _).symm, by simp; omega⟩

set_option maxRecDepth 8000 in
set_option maxHeartbeats 8000000 in
theorem l20Voice_any (r : Nat) (P n : Int) (w : World) (h : Rd w r P) (hP : P ≤ 700000) (n0 : 0 ≤ n) (n1 : n ≤ 1000000) :
    Calls Tryd.prog 45 #[.pointer (some ⟨r, 0, none⟩), .int .i64 n] w (DrewVo r P w) := by
  have hr0 := h.lt
  have hO := Own.startD h
  have hF := True.intro
  obtain ⟨i0, hi0, hz0, hz1, hz2⟩ := info_parts infoN
  clear h
  go_enter Tryd.func45, Tryd.ntmps45
  go_wp2_with fail
  replace hO := hO.allocRow (e := 39) (cur := #[]) (k := 0) (cap := 0) 6 (by omega) (by unfold maxLen; omega) rfl
  (go_at_call 51; apply own_at hO; (repeat (first | (with_reducible exact hO) | (with_reducible apply Own.alloc) | (with_reducible apply Own.drew) | ((with_reducible apply Own.set_at); (focus (show _ ≤ _; omega))))); have hG := hF; clear hF; clear hO; intro hO; refine own_pick (k := 9) hO hr0 (by omega) (by omega) (by omega) ?_; clear hO; intro x w1 x0 x1 hO; (try simp only [World.size_alloc1, World.size_drew, Nat.reduceAdd] at hO); (try simp only [upd, updI, List.map_cons, List.map_nil, eq_self, if_true, if_false, reduceIte, Nat.add_eq_left, Nat.left_eq_add, Nat.reduceEqDiff, List.set_cons_zero, List.set_cons_succ, hG] at hO); clear hG; have hF := hO; (try simp only [Own, Item.Holds, apartI, CellsAt, Nat.reduceAdd, Nat.zero_add, List.mem_cons, List.not_mem_nil, or_false, forall_eq_or_imp, forall_eq, ne_eq, false_imp_iff, implies_true, and_true] at hF))
  go_wp2_with fail
  go_loopw [5, 6] (fun u t wr => ∃ (m : Int) (v : List Nt), 0 ≤ m ∧ m ≤ 8 ∧ t = .int .i64 m ∧ (v.length : Int) + m ≤ 8 ∧ Hid (∀ x ∈ v, ntOk x) ∧ Own w.heap.size (Bd r w (P + 1 + 50 * (8 - m))) wr [.row 39 6 u v.length (vcC v)]) (fun _ t _ => (intOf t).toNat)
  case atStart => exact ⟨x, [], x0, by omega, rfl, by simp; omega, fun z hz => (by cases hz), hO.mono hr0 (by omega)⟩
  case round =>
    clear hO hF x0 x1
    obtain ⟨m, v, m0, m1, rfl, hvm, hv, hO⟩ := hrel
    have hF := True.intro
    have w1' : IntKind.i64.wrap (m - 1) = m - 1 := IntWalk.i64_in _ (by omega)
    by_cases hm : m = 0
    · subst hm
      clear w1'
      go_wp2_with fail
      (go_at_call 77; apply own_at hO; (repeat (first | (with_reducible exact hO) | (with_reducible apply Own.alloc) | (with_reducible apply Own.drew) | ((with_reducible apply Own.set_at); (focus (show _ ≤ _; omega))))); have hG := hF; clear hF; clear hO; intro hO; refine own_odd hO hr0 (by omega) (by omega) (by omega) ?_; clear hO; intro x w1 hO; (try simp only [World.size_alloc1, World.size_drew, Nat.reduceAdd] at hO); (try simp only [upd, updI, List.map_cons, List.map_nil, eq_self, if_true, if_false, reduceIte, Nat.add_eq_left, Nat.left_eq_add, Nat.reduceEqDiff, List.set_cons_zero, List.set_cons_succ, hG] at hO); clear hG; have hF := hO; (try simp only [Own, Item.Holds, apartI, CellsAt, Nat.reduceAdd, Nat.zero_add, List.mem_cons, List.not_mem_nil, or_false, forall_eq_or_imp, forall_eq, ne_eq, false_imp_iff, implies_true, and_true] at hF))
      replace hO := hO.mono (Q := P + 402) hr0 (by omega)
      cases x
      · go_wp2_with fail
        go_ret
        exact DrewVo.mk hO (by omega) hv.out (by omega)
      · go_wp2_with fail
        (go_at_call 51; apply own_at hO; (repeat (first | (with_reducible exact hO) | (with_reducible apply Own.alloc) | (with_reducible apply Own.drew) | ((with_reducible apply Own.set_at); (focus (show _ ≤ _; omega))))); have hG := hF; clear hF; clear hO; intro hO; refine own_pick (k := 3) hO hr0 (by omega) (by omega) (by omega) ?_; clear hO; intro x w1 x0 x1 hO; (try simp only [World.size_alloc1, World.size_drew, Nat.reduceAdd] at hO); (try simp only [upd, updI, List.map_cons, List.map_nil, eq_self, if_true, if_false, reduceIte, Nat.add_eq_left, Nat.left_eq_add, Nat.reduceEqDiff, List.set_cons_zero, List.set_cons_succ, hG] at hO); clear hG; have hF := hO; (try simp only [Own, Item.Holds, apartI, CellsAt, Nat.reduceAdd, Nat.zero_add, List.mem_cons, List.not_mem_nil, or_false, forall_eq_or_imp, forall_eq, ne_eq, false_imp_iff, implies_true, and_true] at hF))
        rcases (show x = 0 ∨ x = 1 ∨ x = 2 by omega) with rfl | rfl | rfl
        · clear x0 x1
          go_wp2_with (first | (go_at_call 76; apply own_at hO; (repeat (first | (with_reducible exact hO) | (with_reducible apply Own.alloc) | (with_reducible apply Own.drew) | ((with_reducible apply Own.set_at); (focus (show _ ≤ _; omega))))); have hG := hF; clear hF; clear hO; intro hO; refine own_note hO hr0 (by omega) (by omega) (by omega) ?_; clear hO; intro nx w1 hx hO; (try simp only [World.size_alloc1, World.size_drew, Nat.reduceAdd] at hO); (try simp only [upd, updI, List.map_cons, List.map_nil, eq_self, if_true, if_false, reduceIte, Nat.add_eq_left, Nat.left_eq_add, Nat.reduceEqDiff, List.set_cons_zero, List.set_cons_succ, hG] at hO); clear hG; have hF := hO; (try simp only [Own, Item.Holds, apartI, CellsAt, Nat.reduceAdd, Nat.zero_add, List.mem_cons, List.not_mem_nil, or_false, forall_eq_or_imp, forall_eq, ne_eq, false_imp_iff, implies_true, and_true] at hF); have HX := hid hx; clear hx) | (at_builtin; apply own_list hO; (repeat (first | (with_reducible exact hO) | (with_reducible apply Own.alloc) | (with_reducible apply Own.drew) | ((with_reducible apply Own.set_at); (focus (show _ ≤ _; omega))))); have hG := hF; clear hF; clear hO; intro hO; (try simp only [World.size_alloc1, World.size_drew, Nat.reduceAdd] at hO); (try simp only [upd, updI, List.map_cons, List.map_nil, eq_self, if_true, if_false, reduceIte, Nat.add_eq_left, Nat.left_eq_add, Nat.reduceEqDiff, List.set_cons_zero, List.set_cons_succ, hG] at hO); clear hG; (try simp only [World.size_setCell] at hO); have hF := hO; (try simp only [Own, Item.Holds, apartI, CellsAt, Nat.reduceAdd, Nat.zero_add, List.mem_cons, List.not_mem_nil, or_false, forall_eq_or_imp, forall_eq, ne_eq, false_imp_iff, implies_true, and_true] at hF); refine wpList_append_item rfl _ _ 23 rfl 39 i0 (.agg #[.bool false, .int .i64 0, .int .i64 0, .int .i64 0, .int .i64 0, .bool false]) 6 48 Tryd.underlying23 hi0 hz0 hz1 hz2 rfl (by decide) rfl rfl hO rfl one6v (by unfold maxLen; omega) (by omega) ?_; clear hO hF; intro v' w3 hO _; have hF := True.intro))
          go_ret
          rw [← List.length_singleton (a := nx), ← List.length_append, vcC_snoc] at hO
          exact DrewVo.mk hO (by omega) (all_snoc hv.out HX.out) (by simp; omega)
        · clear x0 x1
          have HX := hid (show ntOk ⟨false, 0, 0, 0, 12, true⟩ by unfold ntOk; simp)
          go_wp2_with (at_builtin; apply own_list hO; (repeat (first | (with_reducible exact hO) | (with_reducible apply Own.alloc) | (with_reducible apply Own.drew) | ((with_reducible apply Own.set_at); (focus (show _ ≤ _; omega))))); have hG := hF; clear hF; clear hO; intro hO; (try simp only [World.size_alloc1, World.size_drew, Nat.reduceAdd] at hO); (try simp only [upd, updI, List.map_cons, List.map_nil, eq_self, if_true, if_false, reduceIte, Nat.add_eq_left, Nat.left_eq_add, Nat.reduceEqDiff, List.set_cons_zero, List.set_cons_succ, hG] at hO); clear hG; (try simp only [World.size_setCell] at hO); have hF := hO; (try simp only [Own, Item.Holds, apartI, CellsAt, Nat.reduceAdd, Nat.zero_add, List.mem_cons, List.not_mem_nil, or_false, forall_eq_or_imp, forall_eq, ne_eq, false_imp_iff, implies_true, and_true] at hF); refine wpList_append_item rfl _ _ 23 rfl 39 i0 (.agg #[.bool false, .int .i64 0, .int .i64 0, .int .i64 0, .int .i64 0, .bool false]) 6 48 Tryd.underlying23 hi0 hz0 hz1 hz2 rfl (by decide) rfl rfl hO rfl one6v (by unfold maxLen; omega) (by omega) ?_; clear hO hF; intro v' w3 hO _; have hF := True.intro)
          go_ret
          rw [show v.length + 1 = (v ++ [(⟨false, 0, 0, 0, 12, true⟩ : Nt)]).length by simp, vcC_snoc v ⟨false, 0, 0, 0, 12, true⟩] at hO
          exact DrewVo.mk hO (by omega) (all_snoc hv.out HX.out) (by simp; omega)
        · clear x0 x1
          go_wp2_with fail
          go_loopw [5] (fun u wr => ∃ v : List Nt, v.length ≤ 61 ∧ Hid (∀ x ∈ v, ntOk x) ∧ Own w.heap.size (Bd r w (P + 402 + 1)) wr [.row 39 6 u v.length (vcC v)]) (fun u _ => 61 - lenOf u)
          case atStart => exact ⟨v, by omega, hv, hO⟩
          case round =>
            clear hO hF hv hvm
            obtain ⟨v, hvl, hv, hO⟩ := hrel
            have hF := True.intro
            obtain ⟨A1, cp1, hv1⟩ := (SlAt.of_row hO.1.1).form
            subst hv1
            by_cases hfull : v.length ≤ 60
            · have hf2 : (v.length : Int) ≤ 60 := by omega
              have HX := hid (show ntOk ⟨true, 0, 0, 0, 12, false⟩ by unfold ntOk; simp)
              go_wp2_with (at_builtin; apply own_list hO; (repeat (first | (with_reducible exact hO) | (with_reducible apply Own.alloc) | (with_reducible apply Own.drew) | ((with_reducible apply Own.set_at); (focus (show _ ≤ _; omega))))); have hG := hF; clear hF; clear hO; intro hO; (try simp only [World.size_alloc1, World.size_drew, Nat.reduceAdd] at hO); (try simp only [upd, updI, List.map_cons, List.map_nil, eq_self, if_true, if_false, reduceIte, Nat.add_eq_left, Nat.left_eq_add, Nat.reduceEqDiff, List.set_cons_zero, List.set_cons_succ, hG] at hO); clear hG; (try simp only [World.size_setCell] at hO); have hF := hO; (try simp only [Own, Item.Holds, apartI, CellsAt, Nat.reduceAdd, Nat.zero_add, List.mem_cons, List.not_mem_nil, or_false, forall_eq_or_imp, forall_eq, ne_eq, false_imp_iff, implies_true, and_true] at hF); refine wpList_append_item rfl _ _ 23 rfl 39 i0 (.agg #[.bool false, .int .i64 0, .int .i64 0, .int .i64 0, .int .i64 0, .bool false]) 6 48 Tryd.underlying23 hi0 hz0 hz1 hz2 rfl (by decide) rfl rfl hO rfl one6v (by unfold maxLen; omega) (by omega) ?_; clear hO hF; intro v' w3 hO _; have hF := True.intro)
              obtain ⟨A2, cp2, hv2⟩ := (SlAt.of_row hO.1.1).form
              subst hv2
              go_roundw
              case rel => exact ⟨v ++ [⟨true, 0, 0, 0, 12, false⟩], by simp; omega, all_snoc hv.out HX.out, by rw [← vcC_snoc, List.length_append]; exact hO⟩
              case measure => simp [lenOf]; omega
            · have hf2 : 60 < (v.length : Int) := by omega
              go_wp2_with fail
              go_ret
              exact DrewVo.mk hO (by omega) hv.out hvl
    · have hm1 : 1 ≤ m := by omega
      have hm2 : 0 < m := by omega
      clear hm
      by_cases hk : v.length = 0
      · obtain rfl : v = [] := List.eq_nil_of_length_eq_zero hk
        obtain ⟨A1, cp1, hv1⟩ := (SlAt.of_row hO.1.1).form
        subst hv1
        have w2' : IntKind.i64.wrap (-1) = -1 := IntWalk.i64_in _ (by omega)
        clear hk
        go_wp2_with (first | (go_at_call 76; apply own_at hO; (repeat (first | (with_reducible exact hO) | (with_reducible apply Own.alloc) | (with_reducible apply Own.drew) | ((with_reducible apply Own.set_at); (focus (show _ ≤ _; omega))))); have hG := hF; clear hF; clear hO; intro hO; refine own_note hO hr0 (by omega) (by omega) (by omega) ?_; clear hO; intro nx w1 hx hO; (try simp only [World.size_alloc1, World.size_drew, Nat.reduceAdd] at hO); (try simp only [upd, updI, List.map_cons, List.map_nil, eq_self, if_true, if_false, reduceIte, Nat.add_eq_left, Nat.left_eq_add, Nat.reduceEqDiff, List.set_cons_zero, List.set_cons_succ, hG] at hO); clear hG; have hF := hO; (try simp only [Own, Item.Holds, apartI, CellsAt, Nat.reduceAdd, Nat.zero_add, List.mem_cons, List.not_mem_nil, or_false, forall_eq_or_imp, forall_eq, ne_eq, false_imp_iff, implies_true, and_true] at hF); have HX := hid hx; clear hx) | (at_builtin; apply own_list hO; (repeat (first | (with_reducible exact hO) | (with_reducible apply Own.alloc) | (with_reducible apply Own.drew) | ((with_reducible apply Own.set_at); (focus (show _ ≤ _; omega))))); have hG := hF; clear hF; clear hO; intro hO; (try simp only [World.size_alloc1, World.size_drew, Nat.reduceAdd] at hO); (try simp only [upd, updI, List.map_cons, List.map_nil, eq_self, if_true, if_false, reduceIte, Nat.add_eq_left, Nat.left_eq_add, Nat.reduceEqDiff, List.set_cons_zero, List.set_cons_succ, hG] at hO); clear hG; (try simp only [World.size_setCell] at hO); have hF := hO; (try simp only [Own, Item.Holds, apartI, CellsAt, Nat.reduceAdd, Nat.zero_add, List.mem_cons, List.not_mem_nil, or_false, forall_eq_or_imp, forall_eq, ne_eq, false_imp_iff, implies_true, and_true] at hF); replace hO := Own.sub (.cons_cons _ (.cons _ (.cons_cons _ .slnil))) hO; refine wpList_append_item rfl _ _ 23 rfl 39 i0 (.agg #[.bool false, .int .i64 0, .int .i64 0, .int .i64 0, .int .i64 0, .bool false]) 6 48 Tryd.underlying23 hi0 hz0 hz1 hz2 rfl (by decide) rfl rfl hO rfl one6v (by unfold maxLen; omega) (by omega) ?_; clear hO hF; intro v' w3 hO _; have hF := True.intro))
        go_roundw
        case rel => exact ⟨m - 1, [nx], by omega, by omega, rfl, by simp; omega, all_snoc (v := []) hv.out HX.out, (show Own _ _ _ [.row _ _ _ _ (vcC [nx])] from hO).mono hr0 (by omega)⟩
        case measure => simp [intOf]; omega
      · obtain ⟨k, hkk⟩ : ∃ k, v.length = k + 1 := ⟨v.length - 1, by omega⟩
        obtain ⟨p, z, hvp, hpk⟩ := split_last hkk
        rw [hkk] at hO hvm
        subst hvp
        obtain ⟨q, cp, hv1, hq1, hq2⟩ := hO.row_open (by omega)
        subst hv1
        unfold maxLen at hq2
        have HPK := hid hpk
        have HL := hid (vcC_at (last_at (x := z) hpk))
        have hql : w.heap.size ≤ q := (Item.Holds.lt (x := .row _ _ _ _ _) hO.1.1 q rfl).1
        have k0 : (0 : Int) ≤ (k : Int) := by omega
        have k1 : (k : Int) < (k : Int) + 1 := by omega
        have w2' : IntKind.i64.wrap (k : Int) = (k : Int) := IntWalk.i64_in _ (by omega)
        clear hk hkk hpk
        cases hr : z.r
        · have HR := hid hr
          clear hr
          go_wp2_with (go_at_call 76; apply own_at hO; (repeat (first | (with_reducible exact hO) | (with_reducible apply Own.alloc) | (with_reducible apply Own.drew) | ((with_reducible apply Own.set_at); (focus (show _ ≤ _; omega))))); have hG := hF; clear hF; clear hO; intro hO; refine own_note hO hr0 (by omega) (by omega) (by omega) ?_; clear hO; intro nx w1 hx hO; (try simp only [World.size_alloc1, World.size_drew, Nat.reduceAdd] at hO); (try simp only [upd, updI, List.map_cons, List.map_nil, eq_self, if_true, if_false, reduceIte, Nat.add_eq_left, Nat.left_eq_add, Nat.reduceEqDiff, List.set_cons_zero, List.set_cons_succ, hG] at hO); clear hG; have hF := hO; (try simp only [Own, Item.Holds, apartI, CellsAt, Nat.reduceAdd, Nat.zero_add, List.mem_cons, List.not_mem_nil, or_false, forall_eq_or_imp, forall_eq, ne_eq, false_imp_iff, implies_true, and_true] at hF); have HX := hid hx; clear hx; have l0 := hO.row_cell HL.out.1; rw [HR.out] at l0; have hqw := (Item.Holds.lt (x := .row _ _ _ _ _) hO.1.1 q rfl).2)
          clear l0 hqw
          (go_at_call 51; apply own_at hO; (repeat (first | (with_reducible exact hO) | (with_reducible apply Own.alloc) | (with_reducible apply Own.drew) | ((with_reducible apply Own.set_at); (focus (show _ ≤ _; omega))))); have hG := hF; clear hF; clear hO; intro hO; refine own_pick (k := 4) hO hr0 (by omega) (by omega) (by omega) ?_; clear hO; intro x w1 x0 x1 hO; (try simp only [World.size_alloc1, World.size_drew, Nat.reduceAdd] at hO); (try simp only [upd, updI, List.map_cons, List.map_nil, eq_self, if_true, if_false, reduceIte, Nat.add_eq_left, Nat.left_eq_add, Nat.reduceEqDiff, List.set_cons_zero, List.set_cons_succ, hG] at hO); clear hG; have hF := hO; (try simp only [Own, Item.Holds, apartI, CellsAt, Nat.reduceAdd, Nat.zero_add, List.mem_cons, List.not_mem_nil, or_false, forall_eq_or_imp, forall_eq, ne_eq, false_imp_iff, implies_true, and_true] at hF))
          cases hxb : (x == 0)
          · have HXB := hid hxb
            go_wp2_with (at_builtin; apply own_list hO; (repeat (first | (with_reducible exact hO) | (with_reducible apply Own.alloc) | (with_reducible apply Own.drew) | ((with_reducible apply Own.set_at); (focus (show _ ≤ _; omega))))); have hG := hF; clear hF; clear hO; intro hO; (try simp only [World.size_alloc1, World.size_drew, Nat.reduceAdd] at hO); (try simp only [upd, updI, List.map_cons, List.map_nil, eq_self, if_true, if_false, reduceIte, Nat.add_eq_left, Nat.left_eq_add, Nat.reduceEqDiff, List.set_cons_zero, List.set_cons_succ, hG] at hO); clear hG; (try simp only [World.size_setCell] at hO); have hF := hO; (try simp only [Own, Item.Holds, apartI, CellsAt, Nat.reduceAdd, Nat.zero_add, List.mem_cons, List.not_mem_nil, or_false, forall_eq_or_imp, forall_eq, ne_eq, false_imp_iff, implies_true, and_true] at hF); replace hO := Own.sub (.cons_cons _ (.cons _ (.cons_cons _ .slnil))) hO; refine wpList_append_item rfl _ _ 23 rfl 39 i0 (.agg #[.bool false, .int .i64 0, .int .i64 0, .int .i64 0, .int .i64 0, .bool false]) 6 48 Tryd.underlying23 hi0 hz0 hz1 hz2 rfl (by decide) rfl rfl hO rfl one6v (by unfold maxLen; omega) (by omega) ?_; clear hO hF; intro v' w3 hO _; have hF := True.intro)
            go_roundw
            case rel => exact ⟨m - 1, (p ++ [z]) ++ [nx], by omega, by omega, rfl, by have := HPK.out; simp; omega, all_snoc hv.out HX.out, by rw [← vcC_snoc, List.length_append, List.length_append, HPK.out]; exact hO.mono hr0 (by omega)⟩
            case measure => simp [intOf]; omega
          · obtain rfl : x = 0 := by simpa using hxb
            clear x0 x1 hxb
            have l1 := hO.2.row_cell HL.out.2.1
            have l2 := hO.2.row_cell HL.out.2.2.1
            have l3 := hO.2.row_cell HL.out.2.2.2.1
            have hqw := (Item.Holds.lt (x := .row _ _ _ _ _) hO.2.1.1 q rfl).2
            go_wp2_with fail
            clear l1 l2 l3 hqw
            (go_at_call 51; apply own_at hO; (repeat (first | (with_reducible exact hO) | (with_reducible apply Own.alloc) | (with_reducible apply Own.drew) | ((with_reducible apply Own.set_at); (focus (show _ ≤ _; omega))))); have hG := hF; clear hF; clear hO; intro hO; refine own_pick (k := 4) hO hr0 (by omega) (by omega) (by omega) ?_; clear hO; intro x w1 x0 x1 hO; (try simp only [World.size_alloc1, World.size_drew, Nat.reduceAdd] at hO); (try simp only [upd, updI, List.map_cons, List.map_nil, eq_self, if_true, if_false, reduceIte, Nat.add_eq_left, Nat.left_eq_add, Nat.reduceEqDiff, List.set_cons_zero, List.set_cons_succ, hG] at hO); clear hG; have hF := hO; (try simp only [Own, Item.Holds, apartI, CellsAt, Nat.reduceAdd, Nat.zero_add, List.mem_cons, List.not_mem_nil, or_false, forall_eq_or_imp, forall_eq, ne_eq, false_imp_iff, implies_true, and_true] at hF))
            have HZ := hid (hv.out z (by simp))
            have l5 := hO.2.row_cell HL.out.2.2.2.2.2
            have f5 := hO.2.row_free (k * 6 + 5)
            have hne := hO.1.2 _ List.mem_cons_self
            simp only [apartI, Value.ownBlock, ne_eq, Option.some.injEq] at hne
            have hne2 := fun e => hne (Eq.symm e)
            by_cases h0 : 0 < x
            · have hO2 := (hO.perm (List.Perm.swap _ _ _)).row_set (k * 6 + 5) (.bool true)
              rw [vcC_setY HPK.out] at hO2
              replace hO := hO2
              clear hO2
              go_wp2_with (at_builtin; apply own_list hO; (repeat (first | (with_reducible exact hO) | (with_reducible apply Own.alloc) | (with_reducible apply Own.drew) | ((with_reducible apply Own.set_at); (focus (show _ ≤ _; omega))))); have hG := hF; clear hF; clear hO; intro hO; (try simp only [World.size_alloc1, World.size_drew, Nat.reduceAdd] at hO); (try simp only [upd, updI, List.map_cons, List.map_nil, eq_self, if_true, if_false, reduceIte, Nat.add_eq_left, Nat.left_eq_add, Nat.reduceEqDiff, List.set_cons_zero, List.set_cons_succ, hG] at hO); clear hG; (try simp only [World.size_setCell] at hO); have hF := hO; (try simp only [Own, Item.Holds, apartI, CellsAt, Nat.reduceAdd, Nat.zero_add, List.mem_cons, List.not_mem_nil, or_false, forall_eq_or_imp, forall_eq, ne_eq, false_imp_iff, implies_true, and_true] at hF); replace hO := Own.sub (.cons_cons _ (.cons_cons _ (.cons _ .slnil))) hO; refine wpList_append_item rfl _ _ 23 rfl 39 i0 (.agg #[.bool false, .int .i64 0, .int .i64 0, .int .i64 0, .int .i64 0, .bool false]) 6 48 Tryd.underlying23 hi0 hz0 hz1 hz2 rfl (by decide) rfl rfl hO rfl one6v (by unfold maxLen; omega) (by omega) ?_; clear hO hF l5 f5 hne hne2; intro v' w3 hO _; have hF := True.intro)
              go_roundw
              case rel => exact ⟨m - 1, (p ++ [{ z with y := true }]) ++ [⟨false, z.s, z.a, z.o, nx.t, nx.y⟩], by omega, by omega, rfl, by have := HPK.out; simp; omega, all_snoc (all_snoc (fun u hu => hv.out u (List.mem_append_left _ hu)) HZ.out) ⟨HZ.out.1, HZ.out.2.1, HZ.out.2.2.1, HX.out.2.2.2⟩, by rw [← vcC_snoc, List.length_append, List.length_append, HPK.out]; exact hO.mono hr0 (by omega)⟩
              case measure => simp [intOf]; omega
            · obtain rfl : x = 0 := by omega
              clear x0 x1 h0
              have hO2 := (hO.perm (List.Perm.swap _ _ _)).row_set (k * 6 + 5) (.bool false)
              rw [vcC_setY HPK.out] at hO2
              replace hO := hO2
              clear hO2
              go_wp2_with (at_builtin; apply own_list hO; (repeat (first | (with_reducible exact hO) | (with_reducible apply Own.alloc) | (with_reducible apply Own.drew) | ((with_reducible apply Own.set_at); (focus (show _ ≤ _; omega))))); have hG := hF; clear hF; clear hO; intro hO; (try simp only [World.size_alloc1, World.size_drew, Nat.reduceAdd] at hO); (try simp only [upd, updI, List.map_cons, List.map_nil, eq_self, if_true, if_false, reduceIte, Nat.add_eq_left, Nat.left_eq_add, Nat.reduceEqDiff, List.set_cons_zero, List.set_cons_succ, hG] at hO); clear hG; (try simp only [World.size_setCell] at hO); have hF := hO; (try simp only [Own, Item.Holds, apartI, CellsAt, Nat.reduceAdd, Nat.zero_add, List.mem_cons, List.not_mem_nil, or_false, forall_eq_or_imp, forall_eq, ne_eq, false_imp_iff, implies_true, and_true] at hF); replace hO := Own.sub (.cons_cons _ (.cons_cons _ (.cons _ .slnil))) hO; refine wpList_append_item rfl _ _ 23 rfl 39 i0 (.agg #[.bool false, .int .i64 0, .int .i64 0, .int .i64 0, .int .i64 0, .bool false]) 6 48 Tryd.underlying23 hi0 hz0 hz1 hz2 rfl (by decide) rfl rfl hO rfl one6v (by unfold maxLen; omega) (by omega) ?_; clear hO hF l5 f5 hne hne2; intro v' w3 hO _; have hF := True.intro)
              go_roundw
              case rel => exact ⟨m - 1, (p ++ [{ z with y := false }]) ++ [⟨false, z.s, z.a, z.o, nx.t, nx.y⟩], by omega, by omega, rfl, by have := HPK.out; simp; omega, all_snoc (all_snoc (fun u hu => hv.out u (List.mem_append_left _ hu)) HZ.out) ⟨HZ.out.1, HZ.out.2.1, HZ.out.2.2.1, HX.out.2.2.2⟩, by rw [← vcC_snoc, List.length_append, List.length_append, HPK.out]; exact hO.mono hr0 (by omega)⟩
              case measure => simp [intOf]; omega
        · have HR := hid hr
          clear hr
          go_wp2_with (first | (go_at_call 76; apply own_at hO; (repeat (first | (with_reducible exact hO) | (with_reducible apply Own.alloc) | (with_reducible apply Own.drew) | ((with_reducible apply Own.set_at); (focus (show _ ≤ _; omega))))); have hG := hF; clear hF; clear hO; intro hO; refine own_note hO hr0 (by omega) (by omega) (by omega) ?_; clear hO; intro nx w1 hx hO; (try simp only [World.size_alloc1, World.size_drew, Nat.reduceAdd] at hO); (try simp only [upd, updI, List.map_cons, List.map_nil, eq_self, if_true, if_false, reduceIte, Nat.add_eq_left, Nat.left_eq_add, Nat.reduceEqDiff, List.set_cons_zero, List.set_cons_succ, hG] at hO); clear hG; have hF := hO; (try simp only [Own, Item.Holds, apartI, CellsAt, Nat.reduceAdd, Nat.zero_add, List.mem_cons, List.not_mem_nil, or_false, forall_eq_or_imp, forall_eq, ne_eq, false_imp_iff, implies_true, and_true] at hF); have HX := hid hx; clear hx; have l0 := hO.row_cell HL.out.1; rw [HR.out] at l0; have hqw := (Item.Holds.lt (x := .row _ _ _ _ _) hO.1.1 q rfl).2) | (at_builtin; apply own_list hO; (repeat (first | (with_reducible exact hO) | (with_reducible apply Own.alloc) | (with_reducible apply Own.drew) | ((with_reducible apply Own.set_at); (focus (show _ ≤ _; omega))))); have hG := hF; clear hF; clear hO; intro hO; (try simp only [World.size_alloc1, World.size_drew, Nat.reduceAdd] at hO); (try simp only [upd, updI, List.map_cons, List.map_nil, eq_self, if_true, if_false, reduceIte, Nat.add_eq_left, Nat.left_eq_add, Nat.reduceEqDiff, List.set_cons_zero, List.set_cons_succ, hG] at hO); clear hG; (try simp only [World.size_setCell] at hO); have hF := hO; (try simp only [Own, Item.Holds, apartI, CellsAt, Nat.reduceAdd, Nat.zero_add, List.mem_cons, List.not_mem_nil, or_false, forall_eq_or_imp, forall_eq, ne_eq, false_imp_iff, implies_true, and_true] at hF); replace hO := Own.sub (.cons_cons _ (.cons _ (.cons_cons _ .slnil))) hO; refine wpList_append_item rfl _ _ 23 rfl 39 i0 (.agg #[.bool false, .int .i64 0, .int .i64 0, .int .i64 0, .int .i64 0, .bool false]) 6 48 Tryd.underlying23 hi0 hz0 hz1 hz2 rfl (by decide) rfl rfl hO rfl one6v (by unfold maxLen; omega) (by omega) ?_; clear hO hF l0 hqw; intro v' w3 hO _; have hF := True.intro))
          go_roundw
          case rel => exact ⟨m - 1, (p ++ [z]) ++ [nx], by omega, by omega, rfl, by have := HPK.out; simp; omega, all_snoc hv.out HX.out, by rw [← vcC_snoc, List.length_append, List.length_append, HPK.out]; exact hO.mono hr0 (by omega)⟩
          case measure => simp [intOf]; omega

/- The functions that draw for a law of chapter 5: notes; voices. -/
open Go.RowKit

/-- What drawing a note for a law leaves; a voice; a voice and an interval; a voice and a tick. -/
def DrewNo (w : World) (e : Ending) (w' : World) : Prop :=
  ∃ x : Nt, ntOk x ∧ e = .returned (.agg #[.bool x.r, .int .i64 x.s, .int .i64 x.a, .int .i64 x.o, .int .i64 x.t, .bool x.y]) ∧ Below w.heap.size w w'
def DrewVs (w : World) (e : Ending) (w' : World) : Prop :=
  ∃ (u : Value) (v : List Nt), (∀ x ∈ v, ntOk x) ∧ v.length ≤ 61 ∧ e = .returned u ∧ Own w.heap.size (Below w.heap.size w) w' [.row 39 6 u v.length (vcC v)]
def DrewVi (w : World) (e : Ending) (w' : World) : Prop :=
  ∃ (u : Value) (v : List Nt) (st ha : Int), (∀ x ∈ v, ntOk x) ∧ v.length ≤ 61 ∧ (-100 ≤ st ∧ st ≤ 100) ∧ (-9223372036854775807 ≤ ha ∧ ha ≤ 9223372036854775807) ∧ e = .returned (.tuple #[u, .agg #[.int .i64 st, .int .i64 ha]]) ∧ Own w.heap.size (Below w.heap.size w) w' [.row 39 6 u v.length (vcC v)]
def DrewVt (w : World) (e : Ending) (w' : World) : Prop :=
  ∃ (u : Value) (v : List Nt) (t : Int), (∀ x ∈ v, ntOk x) ∧ v.length ≤ 61 ∧ (-1 ≤ t ∧ t ≤ 9223372036854775807) ∧ e = .returned (.tuple #[u, .int .i64 t]) ∧ Own w.heap.size (Below w.heap.size w) w' [.row 39 6 u v.length (vcC v)]

theorem vs_own {w w1 w2 : World} {r : Nat} {u : Value} {v : List Nt} (hb : Below w.heap.size w w1) (hr : w.heap.size ≤ r) (hB : ButR r w1 w2) (ho : w2.ownsRow w1.heap.size 39 6 u v.length (vcC v)) : Own w.heap.size (Below w.heap.size w) w2 [.row 39 6 u v.length (vcC v)] :=
  ⟨⟨ownsRow_mono ho hb.size, fun _ h => by cases h⟩, Stab.plain w, hB.below hb hr⟩

/-- A row that a call has made joins what is owned. -/
theorem Own.joinRow {n b : Nat} {B : World → Prop} {w : World} {L : List Item} {e : TypeId} {size : Nat} {v : Value} {k : Nat} {xs : List Value} (h : Own n B w L) (hr : w.ownsRow b e size v k xs) (hnb : n ≤ b) (hb : ∀ x ∈ L, ∀ g, x.at? = some g → g < b) : Own n B w (.row e size v k xs :: L) :=
  ⟨⟨ownsRow_mono hr hnb, fun x hx => .of fun g hg e => by
    have h1 := hb x hx g hg
    have h2 := (World.ownsRow.lt hr g e).1
    omega⟩, h⟩

set_option maxHeartbeats 1000000 in
theorem DrawShiftVoice_any (v : Value) (n : Nat) (w : World) (hn : n ≤ maxLen) (h : BytesB w w.heap.size v n) :
    Calls Tryd.prog 35 #[v] w (DrewVi w) := by
  have hO := Own.start w
  have hF := True.intro
  go_enter Tryd.func35, Tryd.ntmps35
  go_wp2_with fail
  apply own_at hO
  (repeat (first | (with_reducible exact hO) | (with_reducible apply Own.alloc) | (with_reducible apply Own.drew) | ((with_reducible apply Own.set_at); (focus (show _ ≤ _; omega)))))
  intro hO1
  refine (open_any v n _ hn (h.alloc _)).mono ?_
  rintro e w1 ⟨r, hr, rfl, hR, hb⟩
  have hne := hO1.ne_of hr
  have hr0 := Nat.le_trans hO1.low hr
  replace hO := hO1.below hb
  have hrl := hR.lt
  clear hO1 hb h hn
  go_wp2_with fail
  refine (l20Voice_any r 0 _ _ hR (by omega) (by omega) (by omega)).mono ?_
  rintro e w2 ⟨u, vs, hv, hl, rfl, ho, hR2, hB2⟩
  have hO2 := (hO.drawn hB2 hr0 hne).joinRow ho (Nat.le_trans hr0 (Nat.le_of_lt hrl)) (fun x hx g hg => by have := (hO.lt x hx g hg).2; exact this)
  have hne2 : ∀ x ∈ [Item.row 39 6 u vs.length (vcC vs), Item.blk w.heap.size [Value.int .i64 0, .int .i64 0]], x.at? ≠ some r := fun x hx e => by
    rcases List.mem_cons.1 hx with rfl | hx
    · have := (World.ownsRow.lt ho r e).1; omega
    · exact hne x hx e
  have HV := hid hv
  clear hR hB2 hO hne ho hv
  go_wp2_with fail
  refine (l20Way_any r (0 + 500) _ _ hR2 (by omega) (by omega) (by omega)).mono ?_
  rintro e w3 ⟨st, ha, h1, h2, rfl, hR3, hB3⟩
  have hO := hO2.drawn hB3 hr0 hne2
  clear hR2 hR3 hB3 hO2 hne2
  have hG := hF
  (try simp only [World.size_alloc1, World.size_drew, Nat.reduceAdd] at hO); (try simp only [upd, updI, List.map_cons, List.map_nil, eq_self, if_true, if_false, reduceIte, Nat.add_eq_left, Nat.left_eq_add, Nat.reduceEqDiff, List.set_cons_zero, List.set_cons_succ, hG] at hO); clear hG
  clear hF
  have hF := hO; (try simp only [Own, Item.Holds, apartI, CellsAt, Nat.reduceAdd, Nat.zero_add, List.mem_cons, List.not_mem_nil, or_false, forall_eq_or_imp, forall_eq, ne_eq, false_imp_iff, implies_true, and_true] at hF)
  go_wp2
  apply own_end hO
  (repeat (first | (with_reducible exact hO) | (with_reducible apply Own.alloc) | (with_reducible apply Own.drew) | ((with_reducible apply Own.set_at); (focus (show _ ≤ _; omega)))))
  have hG := hF
  clear hF
  clear hO
  intro hO
  simp only [upd, updI, List.map_cons, List.map_nil, eq_self, if_true, if_false, reduceIte, List.set_cons_zero, List.set_cons_succ, hG] at hO
  clear hG
  refine own_ret (v := .tuple #[u, .agg #[.int .i64 st, .int .i64 ha]]) hO ?_ rfl (fun hO => ⟨u, vs, st, ha, HV.out, hl, h1, h2, rfl, Own.sub (.cons_cons _ (.cons _ .slnil)) hO⟩)
  clear hO
  intro w4 hO
  have hF := hO; (try simp only [Own, Item.Holds, apartI, CellsAt, Nat.reduceAdd, Nat.zero_add, List.mem_cons, List.not_mem_nil, or_false, forall_eq_or_imp, forall_eq, ne_eq, false_imp_iff, implies_true, and_true] at hF)
  simp [results, Tryd.results35, go_sem, hF]
end Go.Proofs.YtcgcnkddgihkpaaDoor
