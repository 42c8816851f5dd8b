/- Chapter 5 in the program: moved voices. -/
import Derived.Test.YtcgcnkddgihkpaaDoorWalks5A
import Derived.Test.YtcgcnkddgihkpaaDoorCon5H
import Derived.Test.YtcgcnkddgihkpaaDoorOwn
import Derived.Test.YtcgcnkddgihkpaaDoorWalks2I
namespace Go.Proofs.YtcgcnkddgihkpaaDoor
set_option linter.unusedSimpArgs false
set_option linter.unusedVariables false
set_option maxRecDepth 8000
open Go.RowKit

/-- A store into a block that is none of those listed. -/
theorem Own.set_other {n b i : Nat} {B : World → Prop} {w : World} {u : Value} {L : List Item} (h : Own n B w L) (hb : n ≤ b) (hL : ∀ x ∈ L, x.at? ≠ some b) : Own n B (w.setCell ⟨b, i, none⟩ u) L := by
  have h1 := Own.set_at (i := i) (u := u) hb h
  have h2 : upd L b i u = L := by
    unfold upd
    have : ∀ x ∈ L, updI b i u x = x := fun x hx => by
      have ha := hL x hx
      cases x <;> simp only [updI, Item.at?] at *
      · rename_i b' vs
        rw [if_neg (fun e => ha (by rw [e]))]
      · rw [if_neg ha]
    rw [List.map_congr_left this, List.map_id']
  rwa [h2] at h1
theorem map_at {v : List Nt} {f : Nt → Nt} {j : Nat} {x : Nt} (hx : v[j]? = some x) : (v.map f)[j]? = some (f x) := by rw [List.getElem?_map, hx]; rfl

set_option maxHeartbeats 4000000 in
theorem mvN_yes (x z : Nt) (st ha : Int) (w : World) (ht : TabH w) (ho : shO st ha x = true) (hz : shX st ha x = z) :
    Calls Tryd.prog 49 #[.agg #[.bool x.r, .int .i64 x.s, .int .i64 x.a, .int .i64 x.o, .int .i64 x.t, .bool x.y], .agg #[.int .i64 st, .int .i64 ha]] w fun e w' => e = .returned (.tuple #[.agg #[.bool z.r, .int .i64 z.s, .int .i64 z.a, .int .i64 z.o, .int .i64 z.t, .bool z.y], .bool true]) ∧ Below w.heap.size w w' := by
  have hO := Own.start w
  have hF := True.intro
  obtain ⟨r, s, a, o, t, y⟩ := x
  subst hz
  cases r
  · have HO := hid (show ∀ W, Below w.heap.size w W → _ from fun W hW => adI_yes s a o st ha W (ht.below hW) (shO_note rfl ho))
    have HZ := hid (shX_note (st := st) (ha := ha) (x := ⟨false, s, a, o, t, y⟩) rfl)
    rw [HZ.out]
    clear ho ht
    go_enter Tryd.func49, Tryd.ntmps49
    go_wp2_with (go_at_call 83; apply own_at hO; (repeat (first | (with_reducible exact hO) | (with_reducible apply Own.alloc) | (with_reducible apply Own.drew) | ((with_reducible apply Own.set_at); (focus (show _ ≤ _; omega))))); have hG := hF; clear hF; clear hO; intro hO; refine own_call hO (fun hB => HO.out _ hB) ?_; clear hO; intro w1 hO; (try simp only [World.size_alloc1, World.size_drew, Nat.reduceAdd] at hO); (try simp only [upd, updI, List.map_cons, List.map_nil, eq_self, if_true, if_false, reduceIte, Nat.add_eq_left, Nat.left_eq_add, Nat.reduceEqDiff, List.set_cons_zero, List.set_cons_succ, hG] at hO); clear hG; have hF := hO; (try simp only [Own, Item.Holds, apartI, CellsAt, Nat.reduceAdd, Nat.zero_add, List.mem_cons, List.not_mem_nil, or_false, forall_eq_or_imp, forall_eq, ne_eq, false_imp_iff, implies_true, and_true] at hF))
    apply own_end hO
    (repeat (first | (with_reducible exact hO) | (with_reducible apply Own.alloc) | (with_reducible apply Own.drew) | ((with_reducible apply Own.set_at); (focus (show _ ≤ _; omega)))))
    have hG := hF; clear hF; clear hO; intro hO
    refine own_ret (v := .tuple #[.agg #[.bool false, .int .i64 (adP s o st % 7), .int .i64 (adA s a o st ha), .int .i64 (adP s o st / 7), .int .i64 t, .bool y], .bool true]) hO ?_ rfl (fun hO => ⟨rfl, Own.base (by first | exact hO | (repeat (first | (with_reducible exact hO) | (with_reducible apply Own.alloc) | (with_reducible apply Own.drew) | ((with_reducible apply Own.set_at); (focus (show _ ≤ _; omega))))))⟩)
    clear hO; intro w1 hO
    (try simp only [World.size_alloc1, World.size_drew, Nat.reduceAdd] at hO); (try simp only [upd, updI, List.map_cons, List.map_nil, eq_self, if_true, if_false, reduceIte, Nat.add_eq_left, Nat.left_eq_add, Nat.reduceEqDiff, List.set_cons_zero, List.set_cons_succ, hG] at hO); clear hG
    have hF := hO; (try simp only [Own, Item.Holds, apartI, CellsAt, Nat.reduceAdd, Nat.zero_add, List.mem_cons, List.not_mem_nil, or_false, forall_eq_or_imp, forall_eq, ne_eq, false_imp_iff, implies_true, and_true] at hF)
    simp [results, Tryd.results49, go_sem, hF]
  · have HZ := hid (shX_rest (st := st) (ha := ha) (x := ⟨true, s, a, o, t, y⟩) rfl)
    rw [HZ.out]
    clear ho ht
    go_enter Tryd.func49, Tryd.ntmps49
    go_wp2_with fail
    apply own_end hO
    (repeat (first | (with_reducible exact hO) | (with_reducible apply Own.alloc) | (with_reducible apply Own.drew) | ((with_reducible apply Own.set_at); (focus (show _ ≤ _; omega)))))
    have hG := hF; clear hF; clear hO; intro hO
    refine own_ret (v := .tuple #[.agg #[.bool true, .int .i64 s, .int .i64 a, .int .i64 o, .int .i64 t, .bool y], .bool true]) hO ?_ rfl (fun hO => ⟨rfl, Own.base (by first | exact hO | (repeat (first | (with_reducible exact hO) | (with_reducible apply Own.alloc) | (with_reducible apply Own.drew) | ((with_reducible apply Own.set_at); (focus (show _ ≤ _; omega))))))⟩)
    clear hO; intro w1 hO
    (try simp only [World.size_alloc1, World.size_drew, Nat.reduceAdd] at hO); (try simp only [upd, updI, List.map_cons, List.map_nil, eq_self, if_true, if_false, reduceIte, Nat.add_eq_left, Nat.left_eq_add, Nat.reduceEqDiff, List.set_cons_zero, List.set_cons_succ, hG] at hO); clear hG
    have hF := hO; (try simp only [Own, Item.Holds, apartI, CellsAt, Nat.reduceAdd, Nat.zero_add, List.mem_cons, List.not_mem_nil, or_false, forall_eq_or_imp, forall_eq, ne_eq, false_imp_iff, implies_true, and_true] at hF)
    simp [results, Tryd.results49, go_sem, hF]

set_option maxHeartbeats 4000000 in
theorem mvN_no (x : Nt) (st ha : Int) (w : World) (ht : TabH w) (r1 : r64 st) (r2 : r64 ha) (ho : shO st ha x = false) :
    Calls Tryd.prog 49 #[.agg #[.bool x.r, .int .i64 x.s, .int .i64 x.a, .int .i64 x.o, .int .i64 x.t, .bool x.y], .agg #[.int .i64 st, .int .i64 ha]] w fun e w' => e = .returned (.tuple #[.agg #[.bool false, .int .i64 0, .int .i64 0, .int .i64 0, .int .i64 0, .bool false], .bool false]) ∧ Below w.heap.size w w' := by
  have hO := Own.start w
  have hF := True.intro
  obtain ⟨r, s, a, o, t, y⟩ := x
  cases r
  · have HO := hid (show ∀ W, Below w.heap.size w W → _ from fun W hW => adI_no s a o st ha W (ht.below hW) r1 r2 (by simpa [shO] using ho))
    clear ho ht r1 r2
    go_enter Tryd.func49, Tryd.ntmps49
    go_wp2_with (go_at_call 83; apply own_at hO; (repeat (first | (with_reducible exact hO) | (with_reducible apply Own.alloc) | (with_reducible apply Own.drew) | ((with_reducible apply Own.set_at); (focus (show _ ≤ _; omega))))); have hG := hF; clear hF; clear hO; intro hO; refine own_call hO (fun hB => HO.out _ hB) ?_; clear hO; intro w1 hO; (try simp only [World.size_alloc1, World.size_drew, Nat.reduceAdd] at hO); (try simp only [upd, updI, List.map_cons, List.map_nil, eq_self, if_true, if_false, reduceIte, Nat.add_eq_left, Nat.left_eq_add, Nat.reduceEqDiff, List.set_cons_zero, List.set_cons_succ, hG] at hO); clear hG; have hF := hO; (try simp only [Own, Item.Holds, apartI, CellsAt, Nat.reduceAdd, Nat.zero_add, List.mem_cons, List.not_mem_nil, or_false, forall_eq_or_imp, forall_eq, ne_eq, false_imp_iff, implies_true, and_true] at hF))
    apply own_end hO
    (repeat (first | (with_reducible exact hO) | (with_reducible apply Own.alloc) | (with_reducible apply Own.drew) | ((with_reducible apply Own.set_at); (focus (show _ ≤ _; omega)))))
    have hG := hF; clear hF; clear hO; intro hO
    refine own_ret (v := .tuple #[.agg #[.bool false, .int .i64 0, .int .i64 0, .int .i64 0, .int .i64 0, .bool false], .bool false]) hO ?_ rfl (fun hO => ⟨rfl, Own.base (by first | exact hO | (repeat (first | (with_reducible exact hO) | (with_reducible apply Own.alloc) | (with_reducible apply Own.drew) | ((with_reducible apply Own.set_at); (focus (show _ ≤ _; omega))))))⟩)
    clear hO; intro w1 hO
    (try simp only [World.size_alloc1, World.size_drew, Nat.reduceAdd] at hO); (try simp only [upd, updI, List.map_cons, List.map_nil, eq_self, if_true, if_false, reduceIte, Nat.add_eq_left, Nat.left_eq_add, Nat.reduceEqDiff, List.set_cons_zero, List.set_cons_succ, hG] at hO); clear hG
    have hF := hO; (try simp only [Own, Item.Holds, apartI, CellsAt, Nat.reduceAdd, Nat.zero_add, List.mem_cons, List.not_mem_nil, or_false, forall_eq_or_imp, forall_eq, ne_eq, false_imp_iff, implies_true, and_true] at hF)
    simp [results, Tryd.results49, go_sem, hF]
  · simp [shO] at ho

set_option maxHeartbeats 8000000 in
theorem svI_in (va : Value) (v : List Nt) (st ha : Int) (n : Nat) (w : World) (hnl : v.length = n) (hs : SlAt w va n 6 (vcC v)) (hv : voB v = true) (hi : ivB st ha = true) (ht : TabH w) (r1 : r64 st) (r2 : r64 ha) :
    Calls Tryd.prog 20 #[va, .agg #[.int .i64 st, .int .i64 ha]] w (RowOutB 39 6 (shL v st ha).length (vcC (shL v st ha)) (shB v st ha) w) := by
  have hO := Own.start w
  have hF := True.intro
  obtain ⟨i0, hi0, hz0, hz1, hz2⟩ := info_parts infoN
  obtain ⟨A, c, rfl, nb, hA⟩ := hs.open
  have HA := hid hs
  have HN := hid hnl
  have hn60 : n ≤ 60 := by have := (voB_iff.1 hv).2; omega
  have HV := hid (voI_is hnl hs (by omega) hv)
  have HVO := hid hv
  have HIV := hid hi
  have HI := hid (show ∀ W, Below w.heap.size w W → _ from fun W hW => ivI_any st ha W (ht.below hW) r1 r2)
  rw [hi] at HI
  have HTT := hid (And.intro ht (And.intro r1 r2))
  clear hs hnl hv hi ht r1 r2
  go_enter Tryd.func20, Tryd.ntmps20
  go_wp2_with (first | (go_at_call 25; apply own_at hO; (repeat (first | (with_reducible exact hO) | (with_reducible apply Own.alloc) | (with_reducible apply Own.drew) | ((with_reducible apply Own.set_at); (focus (show _ ≤ _; omega))))); have hG := hF; clear hF; clear hO; intro hO; refine own_call hO (fun hB => HV.out _ hB) ?_; clear hO; intro w1 hO; (try simp only [World.size_alloc1, World.size_drew, Nat.reduceAdd] at hO); (try simp only [upd, updI, List.map_cons, List.map_nil, eq_self, if_true, if_false, reduceIte, Nat.add_eq_left, Nat.left_eq_add, Nat.reduceEqDiff, List.set_cons_zero, List.set_cons_succ, hG] at hO); clear hG; have hF := hO; (try simp only [Own, Item.Holds, apartI, CellsAt, Nat.reduceAdd, Nat.zero_add, List.mem_cons, List.not_mem_nil, or_false, forall_eq_or_imp, forall_eq, ne_eq, false_imp_iff, implies_true, and_true] at hF)) | (go_at_call 48; apply own_at hO; (repeat (first | (with_reducible exact hO) | (with_reducible apply Own.alloc) | (with_reducible apply Own.drew) | ((with_reducible apply Own.set_at); (focus (show _ ≤ _; omega))))); have hG := hF; clear hF; clear hO; intro hO; refine own_call hO (fun hB => HI.out _ hB) ?_; clear hO; intro w1 hO; (try simp only [World.size_alloc1, World.size_drew, Nat.reduceAdd] at hO); (try simp only [upd, updI, List.map_cons, List.map_nil, eq_self, if_true, if_false, reduceIte, Nat.add_eq_left, Nat.left_eq_add, Nat.reduceEqDiff, List.set_cons_zero, List.set_cons_succ, hG] at hO); clear hG; have hF := hO; (try simp only [Own, Item.Holds, apartI, CellsAt, Nat.reduceAdd, Nat.zero_add, List.mem_cons, List.not_mem_nil, or_false, forall_eq_or_imp, forall_eq, ne_eq, false_imp_iff, implies_true, and_true] at hF)) | (at_make; go_loud (refine wpList_make_item rfl _ _ 23 rfl 39 i0 (.agg #[.bool false, .int .i64 0, .int .i64 0, .int .i64 0, .int .i64 0, .bool false]) 6 48 Tryd.underlying23 hi0 hz0 hz1 hz2 _ _ _ _ n rfl rfl rfl rfl (by omega) (by unfold maxLen; omega) hO ?_); clear hO hF; intro q w2 hO; have hF := True.intro))
  rw [madeN n, show List.replicate n nt0 = mixN (v.map (shX st ha)) 0 by rw [mixN_zero, sh_len, HN.out]] at hO
  go_loopw [24] (fun t wr => ∃ j : Nat, j ≤ n ∧ t = .int .i64 j ∧ Hid (∀ (k : Nat) (x : Nt), k < j → v[k]? = some x → shO st ha x = true) ∧ Own w.heap.size (Below w.heap.size w) wr [.row 39 6 (.slice (some ⟨q, 0, none⟩) n n) n (vcC (mixN (v.map (shX st ha)) j)), .blk w.heap.size [.int .i64 st, .int .i64 ha]]) (fun t _ => n - (intOf t).toNat)
  case atStart => exact ⟨0, by omega, rfl, fun k x h => by omega, hO⟩
  case round =>
    clear hO hF
    obtain ⟨j, hj, rfl, hok, hO⟩ := hrel
    have hF := hO; (try simp only [Own, Item.Holds, apartI, CellsAt, Nat.reduceAdd, Nat.zero_add, List.mem_cons, List.not_mem_nil, or_false, forall_eq_or_imp, forall_eq, ne_eq, false_imp_iff, implies_true, and_true] at hF)
    by_cases he : j = n
    · subst he
      have HE := hid (show shB v st ha = true from by
        unfold shB
        rw [HVO.out, HIV.out, sh_all HN.out hok.out]; rfl)
      have HE2 := hid (show vcC (mixN (v.map (shX st ha)) j) = vcC (shL v st ha) by
        rw [shL_yes HE.out]
        congr 1
        have := mixN_full (v.map (shX st ha))
        rwa [sh_len, HN.out] at this)
      have HL := hid (show (shL v st ha).length = j by rw [shL_yes HE.out, sh_len, HN.out])
      go_wp2_with fail
      go_ret2
      rw [HE.out, HL.out, ← HE2.out]
      exact RowOutB.mk hO
    · have hlt : j < n := by omega
      have hlt2 : (j : Int) < n := by omega
      obtain ⟨b, off, rfl, hc1, hc2, hb⟩ := hA (by omega)
      obtain ⟨x, hx⟩ : ∃ x, v[j]? = some x := ⟨_, List.getElem?_eq_getElem (by have := HN.out; omega)⟩
      obtain ⟨z, hz⟩ : ∃ z, (mixN (v.map (shX st ha)) j)[j]? = some z := ⟨_, List.getElem?_eq_getElem (by rw [mixN_len _ _ (by rw [sh_len]; have := HN.out; omega), sh_len]; have := HN.out; omega)⟩
      obtain ⟨d0, d1, d2, d3, d4, d5⟩ := noteAt (HA.out.below hO.base) hx
      have HE := hid (vcC_at hz)
      obtain ⟨y, hy⟩ : ∃ y, shX st ha x = y := ⟨_, rfl⟩
      have hp := mixN_put (map_at (f := shX st ha) hx)
      rw [hy] at hp
      have HP := hid hp
      have hq : q < wr.heap.size := ((Item.Holds.lt (x := .row _ _ _ _ _) hO.1.1) q rfl).2
      have hq0 : w.heap.size ≤ q := ((Item.Holds.lt (x := .row _ _ _ _ _) hO.1.1) q rfl).1
      have hbw : b < wr.heap.size := Nat.lt_of_lt_of_le hb hO.base.size
      have HX := hid hx
      have HJ := hid (And.intro hj hlt)
      have HOK := hid (show shO st ha x = true → ∀ (k : Nat) (y : Nt), k < j + 1 → v[k]? = some y → shO st ha y = true from fun hs k y hk hy => by
        rcases (show k < j ∨ k = j by omega) with h | rfl
        · exact hok.out k y h hy
        · rw [HX.out] at hy; cases hy; exact hs)
      clear he hx hz hA hj hlt hp
      cases ho : shO st ha x
      · have HO := hid (show ∀ W, Below w.heap.size w W → _ from fun W hW => mvN_no x st ha W (HTT.out.1.below hW) HTT.out.2.1 HTT.out.2.2 ho)
        have HE := hid (show shB v st ha = false from sh_bad HX.out ho)
        clear ho hy
        go_wp2_with (go_at_call 49; apply own_at hO; (repeat (first | (with_reducible exact hO) | (with_reducible apply Own.alloc) | (with_reducible apply Own.drew) | ((with_reducible apply Own.set_at); (focus (show _ ≤ _; omega))))); have hG := hF; clear hF; clear hO; intro hO; refine own_call hO (fun hB => HO.out _ hB) ?_; clear hO; intro w1 hO; (try simp only [World.size_alloc1, World.size_drew, Nat.reduceAdd] at hO); (try simp only [upd, updI, List.map_cons, List.map_nil, eq_self, if_true, if_false, reduceIte, Nat.add_eq_left, Nat.left_eq_add, Nat.reduceEqDiff, List.set_cons_zero, List.set_cons_succ, hG] at hO); clear hG; have hF := hO; (try simp only [Own, Item.Holds, apartI, CellsAt, Nat.reduceAdd, Nat.zero_add, List.mem_cons, List.not_mem_nil, or_false, forall_eq_or_imp, forall_eq, ne_eq, false_imp_iff, implies_true, and_true] at hF))
        go_ret2
        rw [HE.out, shL_no HE.out]
        exact RowOutB.mk (Own.nilRow 39 6 (Own.alloc hO))
      · have HO := hid (show ∀ W, Below w.heap.size w W → _ from fun W hW => mvN_yes x y st ha W (HTT.out.1.below hW) ho hy)
        have HS2 := hid ho
        clear ho hy
        go_wp2_with ((go_at_call 49; apply own_at hO; (repeat (first | (with_reducible exact hO) | (with_reducible apply Own.alloc) | (with_reducible apply Own.drew) | ((with_reducible apply Own.set_at); (focus (show _ ≤ _; omega))))); have hG := hF; clear hF; clear hO; intro hO; refine own_call hO (fun hB => HO.out _ hB) ?_; clear hO; intro w1 hO; (try simp only [World.size_alloc1, World.size_drew, Nat.reduceAdd] at hO); (try simp only [upd, updI, List.map_cons, List.map_nil, eq_self, if_true, if_false, reduceIte, Nat.add_eq_left, Nat.left_eq_add, Nat.reduceEqDiff, List.set_cons_zero, List.set_cons_succ, hG] at hO); clear hG; have hF := hO; (try simp only [Own, Item.Holds, apartI, CellsAt, Nat.reduceAdd, Nat.zero_add, List.mem_cons, List.not_mem_nil, or_false, forall_eq_or_imp, forall_eq, ne_eq, false_imp_iff, implies_true, and_true] at hF)); have c0 := hO.2.row_cell HE.out.1; have c1 := hO.2.row_cell HE.out.2.1; have c2 := hO.2.row_cell HE.out.2.2.1; have c3 := hO.2.row_cell HE.out.2.2.2.1; have c4 := hO.2.row_cell HE.out.2.2.2.2.1; have c5 := hO.2.row_cell HE.out.2.2.2.2.2; have r0 := hO.2.row_free (j * 6); have r1 := hO.2.row_free (j * 6 + 1); have r2 := hO.2.row_free (j * 6 + 2); have r3 := hO.2.row_free (j * 6 + 3); have r4 := hO.2.row_free (j * 6 + 4); have r5 := hO.2.row_free (j * 6 + 5); have hqw : q < w1.heap.size := ((Item.Holds.lt (x := .row _ _ _ _ _) hO.2.1.1) q rfl).2)
        go_roundw
        case rel =>
          refine ⟨j + 1, by have := HJ.out; omega, by go_num, HOK.out HS2.out, ?_⟩
          rw [← HP.out]
          exact Own.drop (Own.alloc ((((((hO.2.row_set (j * 6) _).row_set (j * 6 + 1) _).row_set (j * 6 + 2) _).row_set (j * 6 + 3) _).row_set (j * 6 + 4) _).row_set (j * 6 + 5) _))
        case measure => have := HJ.out; simp [intOf]; omega

set_option maxHeartbeats 4000000 in
theorem svI_out (va : Value) (v : List Nt) (st ha : Int) (n : Nat) (w : World) (hnl : v.length = n) (hn : n ≤ 1048576) (hs : SlAt w va n 6 (vcC v)) (hv : (voB v && ivB st ha) = false) (ht : TabH w) (r1 : r64 st) (r2 : r64 ha) :
    Calls Tryd.prog 20 #[va, .agg #[.int .i64 st, .int .i64 ha]] w (RowOutB 39 6 0 [] false w) := by
  have hO := Own.start w
  have hF := True.intro
  cases hvo : voB v
  · have HV := hid (voI_is hnl hs hn hvo)
    clear hs hnl hv hvo ht
    go_enter Tryd.func20, Tryd.ntmps20
    go_wp2_with (go_at_call 25; apply own_at hO; (repeat (first | (with_reducible exact hO) | (with_reducible apply Own.alloc) | (with_reducible apply Own.drew) | ((with_reducible apply Own.set_at); (focus (show _ ≤ _; omega))))); have hG := hF; clear hF; clear hO; intro hO; refine own_call hO (fun hB => HV.out _ hB) ?_; clear hO; intro w1 hO; (try simp only [World.size_alloc1, World.size_drew, Nat.reduceAdd] at hO); (try simp only [upd, updI, List.map_cons, List.map_nil, eq_self, if_true, if_false, reduceIte, Nat.add_eq_left, Nat.left_eq_add, Nat.reduceEqDiff, List.set_cons_zero, List.set_cons_succ, hG] at hO); clear hG; have hF := hO; (try simp only [Own, Item.Holds, apartI, CellsAt, Nat.reduceAdd, Nat.zero_add, List.mem_cons, List.not_mem_nil, or_false, forall_eq_or_imp, forall_eq, ne_eq, false_imp_iff, implies_true, and_true] at hF))
    go_ret2
    exact RowOutB.mk (Own.nilRow 39 6 hO)
  · have hi : ivB st ha = false := by rw [hvo] at hv; simpa using hv
    have HV := hid (voI_is hnl hs hn hvo)
    have HI := hid (show ∀ W, Below w.heap.size w W → _ from fun W hW => ivI_any st ha W (ht.below hW) r1 r2)
    rw [hi] at HI
    clear hs hnl hv hi hvo ht
    go_enter Tryd.func20, Tryd.ntmps20
    go_wp2_with (first | (go_at_call 25; apply own_at hO; (repeat (first | (with_reducible exact hO) | (with_reducible apply Own.alloc) | (with_reducible apply Own.drew) | ((with_reducible apply Own.set_at); (focus (show _ ≤ _; omega))))); have hG := hF; clear hF; clear hO; intro hO; refine own_call hO (fun hB => HV.out _ hB) ?_; clear hO; intro w1 hO; (try simp only [World.size_alloc1, World.size_drew, Nat.reduceAdd] at hO); (try simp only [upd, updI, List.map_cons, List.map_nil, eq_self, if_true, if_false, reduceIte, Nat.add_eq_left, Nat.left_eq_add, Nat.reduceEqDiff, List.set_cons_zero, List.set_cons_succ, hG] at hO); clear hG; have hF := hO; (try simp only [Own, Item.Holds, apartI, CellsAt, Nat.reduceAdd, Nat.zero_add, List.mem_cons, List.not_mem_nil, or_false, forall_eq_or_imp, forall_eq, ne_eq, false_imp_iff, implies_true, and_true] at hF)) | (go_at_call 48; apply own_at hO; (repeat (first | (with_reducible exact hO) | (with_reducible apply Own.alloc) | (with_reducible apply Own.drew) | ((with_reducible apply Own.set_at); (focus (show _ ≤ _; omega))))); have hG := hF; clear hF; clear hO; intro hO; refine own_call hO (fun hB => HI.out _ hB) ?_; clear hO; intro w1 hO; (try simp only [World.size_alloc1, World.size_drew, Nat.reduceAdd] at hO); (try simp only [upd, updI, List.map_cons, List.map_nil, eq_self, if_true, if_false, reduceIte, Nat.add_eq_left, Nat.left_eq_add, Nat.reduceEqDiff, List.set_cons_zero, List.set_cons_succ, hG] at hO); clear hG; have hF := hO; (try simp only [Own, Item.Holds, apartI, CellsAt, Nat.reduceAdd, Nat.zero_add, List.mem_cons, List.not_mem_nil, or_false, forall_eq_or_imp, forall_eq, ne_eq, false_imp_iff, implies_true, and_true] at hF)))
    go_ret2
    exact RowOutB.mk (Own.nilRow 39 6 hO)

theorem svI_any (va : Value) (v : List Nt) (st ha : Int) (w : World) (hs : SlAt w va v.length 6 (vcC v)) (hn : v.length ≤ 1048576) (ht : TabH w) (r1 : r64 st) (r2 : r64 ha) :
    Calls Tryd.prog 20 #[va, .agg #[.int .i64 st, .int .i64 ha]] w (RowOutB 39 6 (shL v st ha).length (vcC (shL v st ha)) (shB v st ha) w) := by
  cases hv : voB v && ivB st ha
  · have hb : shB v st ha = false := by unfold shB; rw [hv]; rfl
    rw [hb, shL_no hb]
    exact svI_out va v st ha _ w rfl hn hs hv ht r1 r2
  · rw [Bool.and_eq_true] at hv
    exact svI_in va v st ha _ w rfl hs hv.1 hv.2 ht r1 r2

theorem svI_C (w : World) (ht : TabH w) : CShift 20 w := fun va v st ha W hW hs hn r1 r2 => svI_any va v st ha W hs hn (ht.below hW) r1 r2
end Go.Proofs.YtcgcnkddgihkpaaDoor
