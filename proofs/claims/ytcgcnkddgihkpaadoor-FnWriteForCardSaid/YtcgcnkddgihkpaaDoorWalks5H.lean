/- Chapter 5 in the model: moved voices. -/
import Derived.Test.YtcgcnkddgihkpaaDoorWalks5T
import Derived.Test.YtcgcnkddgihkpaaDoorOwn
import Derived.Test.YtcgcnkddgihkpaaDoorPure5c
import Derived.Test.YtcgcnkddgihkpaaDoorWalks2S
namespace Go.Proofs.YtcgcnkddgihkpaaDoor
set_option linter.unusedSimpArgs false
set_option linter.unusedVariables false
set_option maxRecDepth 8000
open Go.RowKit

theorem sh_len (v : List Nt) (st ha : Int) : (v.map (shX st ha)).length = v.length := by simp
theorem sh_up {v : List Nt} {st ha : Int} {j : Nat} {x : Nt} (hx : v[j]? = some x) : (v.map (shX st ha)).take j ++ [shX st ha x] = (v.map (shX st ha)).take (j + 1) := by
  rw [List.take_add_one, List.getElem?_map, hx]; rfl
theorem sh_all {v : List Nt} {st ha : Int} {n : Nat} (hn : v.length = n) (h : ∀ (k : Nat) (x : Nt), k < n → v[k]? = some x → shO st ha x = true) : v.all (shO st ha) = true := by
  rw [List.all_eq_true]
  intro x hx
  obtain ⟨k, hk⟩ := List.getElem?_of_mem hx
  have hl := (List.getElem?_eq_some_iff.1 hk).1
  exact h k x (by omega) hk
theorem sh_bad {v : List Nt} {st ha : Int} {k : Nat} {x : Nt} (hx : v[k]? = some x) (h : shO st ha x = false) : shB v st ha = false := by
  cases hb : shB v st ha with
  | false => rfl
  | true => have := (shB_iff.1 hb).2.2 x (List.mem_of_getElem? hx); rw [h] at this; cases this

set_option maxHeartbeats 8000000 in
theorem svS_in (va : Value) (v : List Nt) (st ha : Int) (n : Nat) (w : World) (hnl : v.length = n) (hs : SlAt w va n 6 (vcC v)) (hv : voB v = true) (hi : ivB st ha = true) :
    Calls Tryd.prog 36 #[va, .agg #[.int .i64 st, .int .i64 ha]] w (RowOutB 39 6 (shL v st ha).length (vcC (shL v st ha)) (shB v st ha) w) := by
  have hO := Own.start w
  have hF := True.intro
  obtain ⟨i0, hi0, hz0, hz1, hz2⟩ := info_parts infoN
  obtain ⟨A, c, rfl, nb, hA⟩ := hs.open
  have HA := hid hs
  have HN := hid hnl
  have hn60 : n ≤ 60 := by have := (voB_iff.1 hv).2; omega
  have HV := hid (voS_is hnl hs (by omega) hv)
  have HVO := hid hv
  have HIV := hid hi
  have HI := hid (fun W => ivS_any st ha W)
  rw [hi] at HI
  clear hs hnl hv hi
  go_enter Tryd.func36, Tryd.ntmps36
  go_wp2_with fail
  replace hO := (hO.alloc (t := 31) (vs := [.int .i64 st, .int .i64 ha])).allocRow (e := 39) (cur := #[]) (k := 0) (cap := 0) 6 (by omega) (by unfold maxLen; omega) rfl
  simp only [World.size_alloc1] at hO
  go_wp2_with (first | (go_at_call 56; apply own_at hO; (repeat (first | (with_reducible exact hO) | (with_reducible apply Own.alloc) | (with_reducible apply Own.drew) | ((with_reducible apply Own.set_at); (focus (show _ ≤ _; omega))))); have hG := hF; clear hF; clear hO; intro hO; refine own_call hO (fun hB => HV.out _ hB) ?_; clear hO; intro w1 hO; (try simp only [World.size_alloc1, World.size_drew, Nat.reduceAdd] at hO); (try simp only [upd, updI, List.map_cons, List.map_nil, eq_self, if_true, if_false, reduceIte, Nat.add_eq_left, Nat.left_eq_add, Nat.reduceEqDiff, List.set_cons_zero, List.set_cons_succ, hG] at hO); clear hG; have hF := hO; (try simp only [Own, Item.Holds, apartI, CellsAt, Nat.reduceAdd, Nat.zero_add, List.mem_cons, List.not_mem_nil, or_false, forall_eq_or_imp, forall_eq, ne_eq, false_imp_iff, implies_true, and_true] at hF)) | (go_at_call 70; apply own_at hO; (repeat (first | (with_reducible exact hO) | (with_reducible apply Own.alloc) | (with_reducible apply Own.drew) | ((with_reducible apply Own.set_at); (focus (show _ ≤ _; omega))))); have hG := hF; clear hF; clear hO; intro hO; refine own_call hO (fun hB => HI.out _) ?_; clear hO; intro w1 hO; (try simp only [World.size_alloc1, World.size_drew, Nat.reduceAdd] at hO); (try simp only [upd, updI, List.map_cons, List.map_nil, eq_self, if_true, if_false, reduceIte, Nat.add_eq_left, Nat.left_eq_add, Nat.reduceEqDiff, List.set_cons_zero, List.set_cons_succ, hG] at hO); clear hG; have hF := hO; (try simp only [Own, Item.Holds, apartI, CellsAt, Nat.reduceAdd, Nat.zero_add, List.mem_cons, List.not_mem_nil, or_false, forall_eq_or_imp, forall_eq, ne_eq, false_imp_iff, implies_true, and_true] at hF)))
  (apply own_code hO; (repeat (first | (with_reducible exact hO) | (with_reducible apply Own.alloc) | (with_reducible apply Own.drew) | ((with_reducible apply Own.set_at); (focus (show _ ≤ _; omega))))); have hG := hF; clear hF; clear hO; intro hO; (try simp only [World.size_alloc1, World.size_drew, Nat.reduceAdd] at hO); (try simp only [upd, updI, List.map_cons, List.map_nil, eq_self, if_true, if_false, reduceIte, Nat.add_eq_left, Nat.left_eq_add, Nat.reduceEqDiff, List.set_cons_zero, List.set_cons_succ, hG] at hO); clear hG; have hF := hO; (try simp only [Own, Item.Holds, apartI, CellsAt, Nat.reduceAdd, Nat.zero_add, List.mem_cons, List.not_mem_nil, or_false, forall_eq_or_imp, forall_eq, ne_eq, false_imp_iff, implies_true, and_true] at hF))
  go_loopw [6, 7] (fun u t wr => ∃ j : Nat, j ≤ n ∧ t = .int .i64 j ∧ Hid (∀ (k : Nat) (x : Nt), k < j → v[k]? = some x → shO st ha x = true) ∧ Own w.heap.size (Below w.heap.size w) wr [.row 39 6 u j (vcC ((v.map (shX st ha)).take j)), .blk w.heap.size [.int .i64 st, .int .i64 ha]]) (fun _ t _ => n - (intOf t).toNat)
  case atStart => exact ⟨0, by omega, rfl, fun k x h => by omega, hO⟩
  case round =>
    clear hO hF
    obtain ⟨j, hj, rfl, hok, hO⟩ := hrel
    have hF := hO; (try simp only [Own, Item.Holds, apartI, CellsAt, Nat.reduceAdd, Nat.zero_add, List.mem_cons, List.not_mem_nil, or_false, forall_eq_or_imp, forall_eq, ne_eq, false_imp_iff, implies_true, and_true] at hF)
    by_cases he : j = n
    · subst he
      have HE := hid (show shB v st ha = true from by
        unfold shB
        rw [HVO.out, HIV.out, sh_all HN.out hok.out]; rfl)
      have HE2 := hid (show shL v st ha = (v.map (shX st ha)).take j by
        unfold shL
        rw [if_pos HE.out, List.take_of_length_le (by rw [sh_len]; have := HN.out; omega)])
      have HL := hid (show ((v.map (shX st ha)).take j).length = j by rw [List.length_take, sh_len]; have := HN.out; omega)
      go_wp2_with fail
      go_ret2
      rw [HE.out, HE2.out, HL.out]
      exact RowOutB.mk hO
    · have hlt : j < n := by omega
      have hlt2 : (j : Int) < n := by omega
      obtain ⟨b, off, rfl, hc1, hc2, hb⟩ := hA (by omega)
      obtain ⟨x, hx⟩ : ∃ x, v[j]? = some x := ⟨_, List.getElem?_eq_getElem (by have := HN.out; omega)⟩
      obtain ⟨d0, d1, d2, d3, d4, d5⟩ := noteAt (HA.out.below hO.base) hx
      have HX := hid hx
      have HU := hid (sh_up (st := st) (ha := ha) hx)
      clear he hx
      cases hr : x.r
      · cases ho : adB x.s x.a x.o st ha
        · have HO := hid (fun W => adS_no x.s x.a x.o st ha W ho)
          have HE := hid (show shB v st ha = false from sh_bad HX.out (by unfold shO; rw [hr, ho]; rfl))
          have HR := hid hr
          rw [hr] at d0
          clear hr ho
          go_wp2_with (go_at_call 58; apply own_at hO; (repeat (first | (with_reducible exact hO) | (with_reducible apply Own.alloc) | (with_reducible apply Own.drew) | ((with_reducible apply Own.set_at); (focus (show _ ≤ _; omega))))); have hG := hF; clear hF; clear hO; intro hO; refine own_call hO (fun hB => HO.out _) ?_; clear hO; intro w1 hO; (try simp only [World.size_alloc1, World.size_drew, Nat.reduceAdd] at hO); (try simp only [upd, updI, List.map_cons, List.map_nil, eq_self, if_true, if_false, reduceIte, Nat.add_eq_left, Nat.left_eq_add, Nat.reduceEqDiff, List.set_cons_zero, List.set_cons_succ, hG] at hO); clear hG; have hF := hO; (try simp only [Own, Item.Holds, apartI, CellsAt, Nat.reduceAdd, Nat.zero_add, List.mem_cons, List.not_mem_nil, or_false, forall_eq_or_imp, forall_eq, ne_eq, false_imp_iff, implies_true, and_true] at hF))
          go_ret2
          rw [HE.out, show shL v st ha = [] by unfold shL; rw [HE.out]; rfl]
          have hO2 := (hO.alloc (t := 37) (vs := [.int .i64 0, .int .i64 0, .int .i64 0])).allocRow (e := 39) (cur := #[]) (k := 0) (cap := 0) 6 (by omega) (by unfold maxLen; omega) rfl
          simp only [World.size_alloc1] at hO2
          exact RowOutB.mk hO2
        · have HO := hid (fun W => adS_yes x.s x.a x.o st ha W ho)
          have HS := hid (show shO st ha x = true by unfold shO; rw [hr, ho]; rfl)
          have HR := hid hr
          rw [hr] at d0
          clear hr ho
          have hOK := hid (show ∀ (k : Nat) (y : Nt), k < j + 1 → v[k]? = some y → shO st ha y = true from fun k y hk hy => by
            rcases (show k < j ∨ k = j by omega) with h | rfl
            · exact hok.out k y h hy
            · rw [HX.out] at hy; cases hy; exact HS.out)
          have HF := hid (show vcC [shX st ha x] = [.bool false, .int .i64 (adP x.s x.o st % 7), .int .i64 (adA x.s x.a x.o st ha), .int .i64 (adP x.s x.o st / 7), .int .i64 x.t, .bool x.y] by rw [shX_note HR.out]; simp [vcC, ntC, HR.out])
          go_wp2_with (first | (go_at_call 58; apply own_at hO; (repeat (first | (with_reducible exact hO) | (with_reducible apply Own.alloc) | (with_reducible apply Own.drew) | ((with_reducible apply Own.set_at); (focus (show _ ≤ _; omega))))); have hG := hF; clear hF; clear hO; intro hO; refine own_call hO (fun hB => HO.out _) ?_; clear hO; intro w1 hO; (try simp only [World.size_alloc1, World.size_drew, Nat.reduceAdd] at hO); (try simp only [upd, updI, List.map_cons, List.map_nil, eq_self, if_true, if_false, reduceIte, Nat.add_eq_left, Nat.left_eq_add, Nat.reduceEqDiff, List.set_cons_zero, List.set_cons_succ, hG] at hO); clear hG; have hF := hO; (try simp only [Own, Item.Holds, apartI, CellsAt, Nat.reduceAdd, Nat.zero_add, List.mem_cons, List.not_mem_nil, or_false, forall_eq_or_imp, forall_eq, ne_eq, false_imp_iff, implies_true, and_true] at hF)) | (at_builtin; apply own_list hO; (repeat (first | (with_reducible exact hO) | (with_reducible apply Own.alloc) | (with_reducible apply Own.drew) | ((with_reducible apply Own.set_at); (focus (show _ ≤ _; omega))))); have hG := hF; clear hF; clear hO; intro hO; (try simp only [World.size_alloc1, World.size_drew, Nat.reduceAdd] at hO); (try simp only [upd, updI, List.map_cons, List.map_nil, eq_self, if_true, if_false, reduceIte, Nat.add_eq_left, Nat.left_eq_add, Nat.reduceEqDiff, List.set_cons_zero, List.set_cons_succ, hG] at hO); clear hG; (try simp only [World.size_setCell] at hO); have hF := hO; (try simp only [Own, Item.Holds, apartI, CellsAt, Nat.reduceAdd, Nat.zero_add, List.mem_cons, List.not_mem_nil, or_false, forall_eq_or_imp, forall_eq, ne_eq, false_imp_iff, implies_true, and_true] at hF); replace hO := Own.sub (.cons_cons _ (.cons _ (.cons _ (.cons_cons _ (.cons_cons _ .slnil))))) hO; refine wpList_append_item rfl _ _ 23 rfl 39 i0 (.agg #[.bool false, .int .i64 0, .int .i64 0, .int .i64 0, .int .i64 0, .bool false]) 6 48 Tryd.underlying23 hi0 hz0 hz1 hz2 rfl (by decide) rfl rfl hO rfl one6g (by unfold maxLen; omega) (by omega) ?_; clear hO hF d0 d1 d2 d3 d4 d5; intro v' w3 hO _; have hF := True.intro))
          go_roundw
          case rel => exact ⟨j + 1, by omega, by go_num, hOK.out, by rw [← HU.out, vcC_append]; rw [HF.out]; exact hO⟩
          case measure => simp [intOf]; omega
      · have HS := hid (show shO st ha x = true by unfold shO; rw [hr]; rfl)
        have HR := hid hr
        rw [hr] at d0
        clear hr
        have hOK := hid (show ∀ (k : Nat) (y : Nt), k < j + 1 → v[k]? = some y → shO st ha y = true from fun k y hk hy => by
          rcases (show k < j ∨ k = j by omega) with h | rfl
          · exact hok.out k y h hy
          · rw [HX.out] at hy; cases hy; exact HS.out)
        have HF := hid (show vcC [shX st ha x] = [.bool true, .int .i64 x.s, .int .i64 x.a, .int .i64 x.o, .int .i64 x.t, .bool x.y] by rw [shX_rest HR.out]; simp [vcC, ntC, HR.out])
        go_wp2_with (at_builtin; apply own_list hO; (repeat (first | (with_reducible exact hO) | (with_reducible apply Own.alloc) | (with_reducible apply Own.drew) | ((with_reducible apply Own.set_at); (focus (show _ ≤ _; omega))))); have hG := hF; clear hF; clear hO; intro hO; (try simp only [World.size_alloc1, World.size_drew, Nat.reduceAdd] at hO); (try simp only [upd, updI, List.map_cons, List.map_nil, eq_self, if_true, if_false, reduceIte, Nat.add_eq_left, Nat.left_eq_add, Nat.reduceEqDiff, List.set_cons_zero, List.set_cons_succ, hG] at hO); clear hG; (try simp only [World.size_setCell] at hO); have hF := hO; (try simp only [Own, Item.Holds, apartI, CellsAt, Nat.reduceAdd, Nat.zero_add, List.mem_cons, List.not_mem_nil, or_false, forall_eq_or_imp, forall_eq, ne_eq, false_imp_iff, implies_true, and_true] at hF); replace hO := Own.sub (.cons_cons _ (.cons _ (.cons_cons _ (.cons_cons _ .slnil)))) hO; refine wpList_append_item rfl _ _ 23 rfl 39 i0 (.agg #[.bool false, .int .i64 0, .int .i64 0, .int .i64 0, .int .i64 0, .bool false]) 6 48 Tryd.underlying23 hi0 hz0 hz1 hz2 rfl (by decide) rfl rfl hO rfl one6g (by unfold maxLen; omega) (by omega) ?_; clear hO hF d0 d1 d2 d3 d4 d5; intro v' w3 hO _; have hF := True.intro)
        go_roundw
        case rel => exact ⟨j + 1, by omega, by go_num, hOK.out, by rw [← HU.out, vcC_append]; rw [HF.out]; exact hO⟩
        case measure => simp [intOf]; omega

set_option maxHeartbeats 4000000 in
theorem svS_out (va : Value) (v : List Nt) (st ha : Int) (n : Nat) (w : World) (hnl : v.length = n) (hn : n ≤ 1048576) (hs : SlAt w va n 6 (vcC v)) (hv : (voB v && ivB st ha) = false) :
    Calls Tryd.prog 36 #[va, .agg #[.int .i64 st, .int .i64 ha]] w (RowOutB 39 6 0 [] false w) := by
  have hO := Own.start w
  have hF := True.intro
  obtain ⟨A, c, rfl, nb, hA⟩ := hs.open
  cases hvo : voB v
  · have HV := hid (voS_is hnl hs hn hvo)
    clear hs hnl hv hvo
    go_enter Tryd.func36, Tryd.ntmps36
    go_wp2_with fail
    replace hO := (hO.alloc (t := 31) (vs := [.int .i64 st, .int .i64 ha])).allocRow (e := 39) (cur := #[]) (k := 0) (cap := 0) 6 (by omega) (by unfold maxLen; omega) rfl
    simp only [World.size_alloc1] at hO
    go_wp2_with (go_at_call 56; apply own_at hO; (repeat (first | (with_reducible exact hO) | (with_reducible apply Own.alloc) | (with_reducible apply Own.drew) | ((with_reducible apply Own.set_at); (focus (show _ ≤ _; omega))))); have hG := hF; clear hF; clear hO; intro hO; refine own_call hO (fun hB => HV.out _ hB) ?_; clear hO; intro w1 hO; (try simp only [World.size_alloc1, World.size_drew, Nat.reduceAdd] at hO); (try simp only [upd, updI, List.map_cons, List.map_nil, eq_self, if_true, if_false, reduceIte, Nat.add_eq_left, Nat.left_eq_add, Nat.reduceEqDiff, List.set_cons_zero, List.set_cons_succ, hG] at hO); clear hG; have hF := hO; (try simp only [Own, Item.Holds, apartI, CellsAt, Nat.reduceAdd, Nat.zero_add, List.mem_cons, List.not_mem_nil, or_false, forall_eq_or_imp, forall_eq, ne_eq, false_imp_iff, implies_true, and_true] at hF))
    go_ret2
    exact RowOutB.mk hO
  · have hi : ivB st ha = false := by rw [hvo] at hv; simpa using hv
    have HV := hid (voS_is hnl hs hn hvo)
    have HI := hid (fun W => ivS_any st ha W)
    rw [hi] at HI
    clear hs hnl hv hi hvo
    go_enter Tryd.func36, Tryd.ntmps36
    go_wp2_with fail
    replace hO := (hO.alloc (t := 31) (vs := [.int .i64 st, .int .i64 ha])).allocRow (e := 39) (cur := #[]) (k := 0) (cap := 0) 6 (by omega) (by unfold maxLen; omega) rfl
    simp only [World.size_alloc1] at hO
    go_wp2_with (first | (go_at_call 56; apply own_at hO; (repeat (first | (with_reducible exact hO) | (with_reducible apply Own.alloc) | (with_reducible apply Own.drew) | ((with_reducible apply Own.set_at); (focus (show _ ≤ _; omega))))); have hG := hF; clear hF; clear hO; intro hO; refine own_call hO (fun hB => HV.out _ hB) ?_; clear hO; intro w1 hO; (try simp only [World.size_alloc1, World.size_drew, Nat.reduceAdd] at hO); (try simp only [upd, updI, List.map_cons, List.map_nil, eq_self, if_true, if_false, reduceIte, Nat.add_eq_left, Nat.left_eq_add, Nat.reduceEqDiff, List.set_cons_zero, List.set_cons_succ, hG] at hO); clear hG; have hF := hO; (try simp only [Own, Item.Holds, apartI, CellsAt, Nat.reduceAdd, Nat.zero_add, List.mem_cons, List.not_mem_nil, or_false, forall_eq_or_imp, forall_eq, ne_eq, false_imp_iff, implies_true, and_true] at hF)) | (go_at_call 70; apply own_at hO; (repeat (first | (with_reducible exact hO) | (with_reducible apply Own.alloc) | (with_reducible apply Own.drew) | ((with_reducible apply Own.set_at); (focus (show _ ≤ _; omega))))); have hG := hF; clear hF; clear hO; intro hO; refine own_call hO (fun hB => HI.out _) ?_; clear hO; intro w1 hO; (try simp only [World.size_alloc1, World.size_drew, Nat.reduceAdd] at hO); (try simp only [upd, updI, List.map_cons, List.map_nil, eq_self, if_true, if_false, reduceIte, Nat.add_eq_left, Nat.left_eq_add, Nat.reduceEqDiff, List.set_cons_zero, List.set_cons_succ, hG] at hO); clear hG; have hF := hO; (try simp only [Own, Item.Holds, apartI, CellsAt, Nat.reduceAdd, Nat.zero_add, List.mem_cons, List.not_mem_nil, or_false, forall_eq_or_imp, forall_eq, ne_eq, false_imp_iff, implies_true, and_true] at hF)))
    go_ret2
    exact RowOutB.mk hO

theorem svS_any (va : Value) (v : List Nt) (st ha : Int) (w : World) (hs : SlAt w va v.length 6 (vcC v)) (hn : v.length ≤ 1048576) :
    Calls Tryd.prog 36 #[va, .agg #[.int .i64 st, .int .i64 ha]] w (RowOutB 39 6 (shL v st ha).length (vcC (shL v st ha)) (shB v st ha) w) := by
  cases hv : voB v && ivB st ha
  · have hb : shB v st ha = false := by unfold shB; rw [hv]; rfl
    have hl : shL v st ha = [] := by unfold shL; rw [hb]; rfl
    rw [hb, hl]
    exact svS_out va v st ha _ w rfl hn hs hv
  · rw [Bool.and_eq_true] at hv
    exact svS_in va v st ha _ w rfl hs hv.1 hv.2
end Go.Proofs.YtcgcnkddgihkpaaDoor
