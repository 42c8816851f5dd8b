/- Chapter 17 in the model: RealAnswer, TonalAnswer, AnswerHead. -/
import Derived.Test.YtcgcnkddgihkpaaDoorCon17
import Derived.Test.YtcgcnkddgihkpaaDoorWalks5N
import Derived.Test.YtcgcnkddgihkpaaDoorWalks3S
import Derived.Test.YtcgcnkddgihkpaaDoorRegionD
namespace Go.Proofs.YtcgcnkddgihkpaaDoor
set_option linter.unusedSimpArgs false
set_option linter.unusedVariables false
set_option maxRecDepth 8000
open Go.RowKit Go.Joins

theorem shS17 {va : Value} {v u : List Nt} {n k : Nat} {st ha : Int} {b : Bool} {w : World} (hl : v.length = n) (hs : SlAt w va n 6 (vcC v)) (hn : n ≤ 1048576) (hu : shL v st ha = u) (hk : u.length = k) (hb : shB v st ha = b) (W : World) (hW : Below w.heap.size w W) :
    Calls Tryd.prog 36 #[va, .agg #[.int .i64 st, .int .i64 ha]] W (RowOutB 39 6 k (vcC u) b W) := by
  subst hl hu hk hb; exact svS_any va v st ha W (hs.below hW) hn

set_option maxHeartbeats 2000000 in
theorem raS_any (va : Value) (v : List Nt) (w : World) (hs : SlAt w va v.length 6 (vcC v)) (hn : v.length ≤ 1048576) :
    Calls Tryd.prog 17 #[va] w (RowOutB 39 6 (shL v 4 7).length (vcC (shL v 4 7)) (shB v 4 7) w) := by
  have hO := Own.start w
  have hF := True.intro
  obtain ⟨A, c, rfl⟩ := hs.form
  obtain ⟨u, hu⟩ : ∃ u, shL v 4 7 = u := ⟨_, rfl⟩
  obtain ⟨k, hk⟩ : ∃ k, u.length = k := ⟨_, rfl⟩
  obtain ⟨b, hb⟩ : ∃ b, shB v 4 7 = b := ⟨_, rfl⟩
  have HS := hid (fun W (hW : Below w.heap.size w W) => shS17 rfl hs hn hu hk hb W hW)
  rw [hu, hb, hk]
  clear hs hn hu hk hb
  go_enter Tryd.func17, Tryd.ntmps17
  go_wp2_with (go_at_call 36; apply own_at hO; (repeat (first | (with_reducible exact hO) | (with_reducible apply Own.alloc) | (with_reducible apply Own.drew) | ((with_reducible apply Own.set_at); (focus (show _ ≤ _; omega))))); have hG := hF; clear hF; clear hO; intro hO; refine own_call_rowB hO (fun hB => HS.out _ hB) ?_; clear hO; intro v w1 hO; (try simp only [World.size_alloc1, World.size_drew, Nat.reduceAdd] at hO); (try simp only [upd, updI, List.map_cons, List.map_nil, eq_self, if_true, if_false, reduceIte, Nat.add_eq_left, Nat.left_eq_add, Nat.reduceEqDiff, List.set_cons_zero, List.set_cons_succ, hG] at hO); clear hG; have hF := hO; (try simp only [Own, Item.Holds, apartI, CellsAt, Nat.reduceAdd, Nat.zero_add, List.mem_cons, List.not_mem_nil, or_false, forall_eq_or_imp, forall_eq, ne_eq, false_imp_iff, implies_true, and_true] at hF))
  go_ret2
  exact RowOutB.mk hO
theorem raS_C (w : World) : CRa 17 w := fun va v W _ hs hn => raS_any va v W hs hn

theorem an_rest {f : Int} {m : Bool} {h : Int} {k : Nat} {x : Nt} (hr : x.r = true) : anX f m h k x = x ∧ anO f m h k x = true := by
  unfold anX anO
  exact ⟨shX_rest hr, by unfold shO; rw [hr]; rfl⟩
theorem by_note {f : Int} {m : Bool} {h : Int} {k : Nat} {x : Nt} (hr : x.r = false) (hk : keyB f = true) (hp : pvB x.s x.a x.o = true) : byB f m h k x = (decide ((k : Int) < h) && (decide (dgZ f m x.s = 4) && decide (x.a - altZ f x.s = 0))) := by
  unfold byB d4B
  rw [hr, hk, hp]
  rfl
/-- By which interval the k-th note is answered, in the order in which the conditions are asked. -/
theorem by_split {f : Int} {m : Bool} {h : Int} {k : Nat} {x : Nt} {d z : Int} (hr : x.r = false) (hk : keyB f = true) (hp : pvB x.s x.a x.o = true) (hd : dgZ f m x.s = d) (hz : x.a - altZ f x.s = z) :
    ∃ st ha : Int, anX f m h k x = shX st ha x ∧ anO f m h k x = shO st ha x ∧ r64 st ∧ r64 ha ∧
      ((¬ (k : Int) < h ∧ st = 4 ∧ ha = 7) ∨ ((k : Int) < h ∧ ¬ d = 4 ∧ (d == 4) = false ∧ st = 4 ∧ ha = 7) ∨ ((k : Int) < h ∧ d = 4 ∧ ¬ z = 0 ∧ (z == 0) = false ∧ st = 4 ∧ ha = 7) ∨ ((k : Int) < h ∧ d = 4 ∧ z = 0 ∧ st = 3 ∧ ha = 5)) := by
  have hb := by_note (m := m) (h := h) (k := k) hr hk hp
  rw [hd, hz] at hb
  unfold anX anO
  by_cases q1 : (k : Int) < h
  · by_cases q2 : d = 4
    · by_cases q3 : z = 0
      · rw [hb, decide_eq_true q1, decide_eq_true q2, decide_eq_true q3]
        exact ⟨3, 5, rfl, rfl, by unfold r64; omega, by unfold r64; omega, .inr (.inr (.inr ⟨q1, q2, q3, rfl, rfl⟩))⟩
      · rw [hb, decide_eq_true q1, decide_eq_true q2, decide_eq_false q3]
        exact ⟨4, 7, rfl, rfl, by unfold r64; omega, by unfold r64; omega, .inr (.inr (.inl ⟨q1, q2, q3, by simpa using q3, rfl, rfl⟩))⟩
    · rw [hb, decide_eq_true q1, decide_eq_false q2]
      exact ⟨4, 7, rfl, rfl, by unfold r64; omega, by unfold r64; omega, .inr (.inl ⟨q1, q2, by simpa using q2, rfl, rfl⟩)⟩
  · rw [hb, decide_eq_false q1]
    exact ⟨4, 7, rfl, rfl, by unfold r64; omega, by unfold r64; omega, .inl ⟨q1, rfl, rfl⟩⟩
theorem by_ways {k : Nat} {h d z : Int} : (¬ (k : Int) < h) ∨ ((k : Int) < h ∧ ¬ d = 4 ∧ (d == 4) = false) ∨ ((k : Int) < h ∧ d = 4 ∧ ¬ z = 0 ∧ (z == 0) = false) ∨ ((k : Int) < h ∧ d = 4 ∧ z = 0) := by
  by_cases q1 : (k : Int) < h
  · by_cases q2 : d = 4
    · by_cases q3 : z = 0
      · exact .inr (.inr (.inr ⟨q1, q2, q3⟩))
      · exact .inr (.inr (.inl ⟨q1, q2, q3, by simpa using q3⟩))
    · exact .inr (.inl ⟨q1, q2, by simpa using q2⟩)
  · exact .inl q1
theorem vo_pv {v : List Nt} (h : voB v = true) {j : Nat} {x : Nt} (hx : v[j]? = some x) : pvB x.s x.a x.o = true := (nvB_iff.1 (tieB_at (voB_iff.1 h).1 hx)).2.2

set_option maxRecDepth 20000 in
set_option maxHeartbeats 8000000 in
theorem taS_in (f : Int) (m : Bool) (va : Value) (v : List Nt) (h : Int) (n : Nat) (w : World) (hnl : v.length = n) (hs : SlAt w va n 6 (vcC v)) (hk : keyB f = true) (hv : voB v = true) (h0 : 0 ≤ h) (h1 : h ≤ n) :
    Calls Tryd.prog 23 #[.int .i64 f, .bool m, va, .int .i64 h] w (RowOutB 39 6 (taL f m v h).length (vcC (taL f m v h)) (taB f m v h) w) := by
  have hO := Own.start w
  have hF := True.intro
  obtain ⟨i0, hi0, hz0, hz1, hz2⟩ := info_parts infoN
  obtain ⟨A, c, rfl, nb, hA⟩ := hs.open
  have HA := hid hs
  have HN := hid hnl
  have hn60 : n ≤ 60 := by have := (voB_iff.1 hv).2; omega
  have HV := hid (voS_is hnl hs (by omega) hv)
  have HVO := hid hv
  have HKB := hid hk
  have HG := hid (show (keyB f && voB v && decide (0 ≤ h) && decide (h ≤ (n : Int))) = true by rw [hk, hv, decide_eq_true h0, decide_eq_true h1]; rfl)
  have e1 : inB f (-7) 7 = true := hk
  have e2 : inB h 0 n = true := inB_iff.2 ⟨h0, h1⟩
  clear hs hnl hv hk
  go_enter Tryd.func23, Tryd.ntmps23
  go_wp2_with fail
  replace hO := hO.allocRow (e := 39) (cur := #[]) (k := 0) (cap := 0) 6 (by omega) (by unfold maxLen; omega) rfl
  go_wp2_with (first | (go_at_call 55; refine (in_any _ _ _ _).mono ?_; rintro e w1 ⟨rfl, rfl⟩) | (go_at_call 56; apply own_at hO; (repeat (first | (with_reducible exact hO) | (with_reducible apply Own.alloc) | (with_reducible apply Own.drew) | ((with_reducible apply Own.set_at); (focus (show _ ≤ _; omega))))); have hG := hF; clear hF; clear hO; intro hO; refine own_call hO (fun hB => HV.out _ hB) ?_; clear hO; intro w1 hO; (try simp only [World.size_alloc1, World.size_drew, Nat.reduceAdd] at hO); (try simp only [upd, updI, List.map_cons, List.map_nil, eq_self, if_true, if_false, reduceIte, Nat.add_eq_left, Nat.left_eq_add, Nat.reduceEqDiff, List.set_cons_zero, List.set_cons_succ, hG] at hO); clear hG; have hF := hO; (try simp only [Own, Item.Holds, apartI, CellsAt, Nat.reduceAdd, Nat.zero_add, List.mem_cons, List.not_mem_nil, or_false, forall_eq_or_imp, forall_eq, ne_eq, false_imp_iff, implies_true, and_true] at hF)))
  (apply own_code hO; (repeat (first | (with_reducible exact hO) | (with_reducible apply Own.alloc) | (with_reducible apply Own.drew) | ((with_reducible apply Own.set_at); (focus (show _ ≤ _; omega))))); have hG := hF; clear hF; clear hO; intro hO; (try simp only [World.size_alloc1, World.size_drew, Nat.reduceAdd] at hO); (try simp only [upd, updI, List.map_cons, List.map_nil, eq_self, if_true, if_false, reduceIte, Nat.add_eq_left, Nat.left_eq_add, Nat.reduceEqDiff, List.set_cons_zero, List.set_cons_succ, hG] at hO); clear hG; have hF := hO; (try simp only [Own, Item.Holds, apartI, CellsAt, Nat.reduceAdd, Nat.zero_add, List.mem_cons, List.not_mem_nil, or_false, forall_eq_or_imp, forall_eq, ne_eq, false_imp_iff, implies_true, and_true] at hF))
  go_loopw [10, 11] (fun u t wr => ∃ j : Nat, j ≤ n ∧ t = .int .i64 j ∧ Hid (∀ (k : Nat) (x : Nt), k < j → v[k]? = some x → anO f m h k x = true) ∧ Own w.heap.size (Below w.heap.size w) wr [.row 39 6 u j (vcC ((anL f m h v).take j))]) (fun _ t _ => n - (intOf t).toNat)
  case atStart => exact ⟨0, by omega, rfl, fun k x h => by omega, hO⟩
  case round =>
    clear hO hF
    obtain ⟨j, hj, rfl, hok, hO⟩ := hrel
    have hF := hO; (try simp only [Own, Item.Holds, apartI, CellsAt, Nat.reduceAdd, Nat.zero_add, List.mem_cons, List.not_mem_nil, or_false, forall_eq_or_imp, forall_eq, ne_eq, false_imp_iff, implies_true, and_true] at hF)
    clear e1 e2
    by_cases he : j = n
    · subst he
      obtain ⟨b, hb⟩ : ∃ b, taB f m v h = b := ⟨_, rfl⟩
      have hb2 : voB (anL f m h v) = b := by rw [← ta_all HN.out HG.out hok.out]; exact hb
      have ht : (anL f m h v).take j = anL f m h v := List.take_of_length_le (by rw [an_len]; have := HN.out; omega)
      have hl : (anL f m h v).length = j := by rw [an_len]; exact HN.out
      rw [ht] at hO
      have HW := hid (fun va W (hW : SlAt W va j 6 (vcC (anL f m h v))) => voS_is hl hW (by omega) hb2 W (Below.refl _ _))
      have HB := hid hb
      have HL := hid hl
      clear hok hb hb2 ht hl
      cases b
      · go_wp2_with (go_at_call 56; apply own_at hO; (repeat (first | (with_reducible exact hO) | (with_reducible apply Own.alloc) | (with_reducible apply Own.drew) | ((with_reducible apply Own.set_at); (focus (show _ ≤ _; omega))))); have hG := hF; clear hF; clear hO; intro hO; refine own_callO hO (fun hW => HW.out _ _ (SlAt.of_row hW.1.1)) ?_; clear hO; intro w1 hO; (try simp only [World.size_alloc1, World.size_drew, Nat.reduceAdd] at hO); (try simp only [upd, updI, List.map_cons, List.map_nil, eq_self, if_true, if_false, reduceIte, Nat.add_eq_left, Nat.left_eq_add, Nat.reduceEqDiff, List.set_cons_zero, List.set_cons_succ, hG] at hO); clear hG; have hF := hO; (try simp only [Own, Item.Holds, apartI, CellsAt, Nat.reduceAdd, Nat.zero_add, List.mem_cons, List.not_mem_nil, or_false, forall_eq_or_imp, forall_eq, ne_eq, false_imp_iff, implies_true, and_true] at hF))
        go_ret2
        rw [HB.out, taL_no HB.out]
        exact RowOutB.mk (hO.allocRow (e := 39) (cur := #[]) (k := 0) (cap := 0) 6 (by omega) (by unfold maxLen; omega) rfl)
      · go_wp2_with (go_at_call 56; apply own_at hO; (repeat (first | (with_reducible exact hO) | (with_reducible apply Own.alloc) | (with_reducible apply Own.drew) | ((with_reducible apply Own.set_at); (focus (show _ ≤ _; omega))))); have hG := hF; clear hF; clear hO; intro hO; refine own_callO hO (fun hW => HW.out _ _ (SlAt.of_row hW.1.1)) ?_; clear hO; intro w1 hO; (try simp only [World.size_alloc1, World.size_drew, Nat.reduceAdd] at hO); (try simp only [upd, updI, List.map_cons, List.map_nil, eq_self, if_true, if_false, reduceIte, Nat.add_eq_left, Nat.left_eq_add, Nat.reduceEqDiff, List.set_cons_zero, List.set_cons_succ, hG] at hO); clear hG; have hF := hO; (try simp only [Own, Item.Holds, apartI, CellsAt, Nat.reduceAdd, Nat.zero_add, List.mem_cons, List.not_mem_nil, or_false, forall_eq_or_imp, forall_eq, ne_eq, false_imp_iff, implies_true, and_true] at hF))
        go_ret2
        rw [HB.out, taL_yes HB.out, HL.out]
        exact RowOutB.mk hO
    · have hlt : j < n := by omega
      have hlt2 : (j : Int) < n := by omega
      obtain ⟨b, off, rfl, hc1, hc2, hb⟩ := hA (by omega)
      obtain ⟨x, hx⟩ : ∃ x, v[j]? = some x := ⟨_, List.getElem?_eq_getElem (by have := HN.out; omega)⟩
      obtain ⟨d0, d1, d2, d3, d4, d5⟩ := noteAt (HA.out.below hO.base) hx
      have HX := hid hx
      have hp := vo_pv HVO.out hx
      have HU := hid (an_up (f := f) (m := m) (h := h) hx)
      obtain ⟨dz, hdz⟩ : ∃ z, dgZ f m x.s = z := ⟨_, rfl⟩
      obtain ⟨mz, hmz⟩ : ∃ z, x.a - altZ f x.s = z := ⟨_, rfl⟩
      have hD := fun W => dgS_yes f x.s x.a x.o m W (by rw [HKB.out, hp]; rfl)
      rw [hdz, hmz] at hD
      have HD := hid hD
      clear he hD
      cases hr : x.r
      · obtain ⟨st, ha, hy, hoe, r1, r2, hways⟩ := by_split (h := h) (k := j) hr HKB.out hp hdz hmz
        rw [hr] at d0
        have HR := hid hr
        cases ho : adB x.s x.a x.o st ha
        · have HO := hid (fun W => adS_no x.s x.a x.o st ha W ho)
          have HE := hid (show taB f m v h = false from ta_bad HX.out (by rw [hoe]; unfold shO; rw [hr, ho]; rfl))
          clear hr ho hy hoe hx hp hdz hmz hok HU
          rcases hways with ⟨q1, rfl, rfl⟩ | ⟨q1, q2, q3, rfl, rfl⟩ | ⟨q1, rfl, q2, q3, rfl, rfl⟩ | ⟨q1, rfl, rfl, rfl, rfl⟩
          all_goals
            go_wp2_with (first | (go_at_call 57; apply own_at hO; (repeat (first | (with_reducible exact hO) | (with_reducible apply Own.alloc) | (with_reducible apply Own.drew) | ((with_reducible apply Own.set_at); (focus (show _ ≤ _; omega))))); have hG := hF; clear hF; clear hO; intro hO; refine own_call hO (fun hB => HD.out _) ?_; clear hO; intro w1 hO; (try simp only [World.size_alloc1, World.size_drew, Nat.reduceAdd] at hO); (try simp only [upd, updI, List.map_cons, List.map_nil, eq_self, if_true, if_false, reduceIte, Nat.add_eq_left, Nat.left_eq_add, Nat.reduceEqDiff, List.set_cons_zero, List.set_cons_succ, hG] at hO); clear hG; have hF := hO; (try simp only [Own, Item.Holds, apartI, CellsAt, Nat.reduceAdd, Nat.zero_add, List.mem_cons, List.not_mem_nil, or_false, forall_eq_or_imp, forall_eq, ne_eq, false_imp_iff, implies_true, and_true] at hF)) | (go_at_call 58; apply own_at hO; (repeat (first | (with_reducible exact hO) | (with_reducible apply Own.alloc) | (with_reducible apply Own.drew) | ((with_reducible apply Own.set_at); (focus (show _ ≤ _; omega))))); have hG := hF; clear hF; clear hO; intro hO; refine own_call hO (fun hB => HO.out _) ?_; clear hO; intro w1 hO; (try simp only [World.size_alloc1, World.size_drew, Nat.reduceAdd] at hO); (try simp only [upd, updI, List.map_cons, List.map_nil, eq_self, if_true, if_false, reduceIte, Nat.add_eq_left, Nat.left_eq_add, Nat.reduceEqDiff, List.set_cons_zero, List.set_cons_succ, hG] at hO); clear hG; have hF := hO; (try simp only [Own, Item.Holds, apartI, CellsAt, Nat.reduceAdd, Nat.zero_add, List.mem_cons, List.not_mem_nil, or_false, forall_eq_or_imp, forall_eq, ne_eq, false_imp_iff, implies_true, and_true] at hF)))
            go_ret2
            rw [HE.out, taL_no HE.out]
            have hO2 := (hO.alloc (t := 37) (vs := [.int .i64 0, .int .i64 0, .int .i64 0])).allocRow (e := 39) (cur := #[]) (k := 0) (cap := 0) 6 (by omega) (by unfold maxLen; omega) rfl
            simp only [World.size_alloc1] at hO2
            exact RowOutB.mk hO2
        · have HO := hid (fun W => adS_yes x.s x.a x.o st ha W ho)
          have HS := hid (show anO f m h j x = true by rw [hoe]; unfold shO; rw [hr, ho]; rfl)
          have hOK := hid (show ∀ (k : Nat) (y : Nt), k < j + 1 → v[k]? = some y → anO f m h k y = true from fun k y hk hvy => by
            rcases (show k < j ∨ k = j by omega) with h | rfl
            · exact hok.out k y h hvy
            · rw [HX.out] at hvy; cases hvy; exact HS.out)
          have HF := hid (show vcC [anX f m h j x] = [.bool false, .int .i64 (adP x.s x.o st % 7), .int .i64 (adA x.s x.a x.o st ha), .int .i64 (adP x.s x.o st / 7), .int .i64 x.t, .bool x.y] by rw [hy, shX_note HR.out]; simp [vcC, ntC, HR.out])
          clear hr ho hy hoe hx hp hdz hmz hok
          rcases hways with ⟨q1, rfl, rfl⟩ | ⟨q1, q2, q3, rfl, rfl⟩ | ⟨q1, rfl, q2, q3, rfl, rfl⟩ | ⟨q1, rfl, rfl, rfl, rfl⟩
          all_goals
            go_wp2_with (first | (go_at_call 57; apply own_at hO; (repeat (first | (with_reducible exact hO) | (with_reducible apply Own.alloc) | (with_reducible apply Own.drew) | ((with_reducible apply Own.set_at); (focus (show _ ≤ _; omega))))); have hG := hF; clear hF; clear hO; intro hO; refine own_call hO (fun hB => HD.out _) ?_; clear hO; intro w1 hO; (try simp only [World.size_alloc1, World.size_drew, Nat.reduceAdd] at hO); (try simp only [upd, updI, List.map_cons, List.map_nil, eq_self, if_true, if_false, reduceIte, Nat.add_eq_left, Nat.left_eq_add, Nat.reduceEqDiff, List.set_cons_zero, List.set_cons_succ, hG] at hO); clear hG; have hF := hO; (try simp only [Own, Item.Holds, apartI, CellsAt, Nat.reduceAdd, Nat.zero_add, List.mem_cons, List.not_mem_nil, or_false, forall_eq_or_imp, forall_eq, ne_eq, false_imp_iff, implies_true, and_true] at hF)) | (go_at_call 58; apply own_at hO; (repeat (first | (with_reducible exact hO) | (with_reducible apply Own.alloc) | (with_reducible apply Own.drew) | ((with_reducible apply Own.set_at); (focus (show _ ≤ _; omega))))); have hG := hF; clear hF; clear hO; intro hO; refine own_call hO (fun hB => HO.out _) ?_; clear hO; intro w1 hO; (try simp only [World.size_alloc1, World.size_drew, Nat.reduceAdd] at hO); (try simp only [upd, updI, List.map_cons, List.map_nil, eq_self, if_true, if_false, reduceIte, Nat.add_eq_left, Nat.left_eq_add, Nat.reduceEqDiff, List.set_cons_zero, List.set_cons_succ, hG] at hO); clear hG; have hF := hO; (try simp only [Own, Item.Holds, apartI, CellsAt, Nat.reduceAdd, Nat.zero_add, List.mem_cons, List.not_mem_nil, or_false, forall_eq_or_imp, forall_eq, ne_eq, false_imp_iff, implies_true, and_true] at hF)) | (at_builtin; apply own_list hO; (repeat (first | (with_reducible exact hO) | (with_reducible apply Own.alloc) | (with_reducible apply Own.drew) | ((with_reducible apply Own.set_at); (focus (show _ ≤ _; omega))))); have hG := hF; clear hF; clear hO; intro hO; (try simp only [World.size_alloc1, World.size_drew, Nat.reduceAdd] at hO); (try simp only [upd, updI, List.map_cons, List.map_nil, eq_self, if_true, if_false, reduceIte, Nat.add_eq_left, Nat.left_eq_add, Nat.reduceEqDiff, List.set_cons_zero, List.set_cons_succ, hG] at hO); clear hG; (try simp only [World.size_setCell] at hO); have hF := hO; (try simp only [Own, Item.Holds, apartI, CellsAt, Nat.reduceAdd, Nat.zero_add, List.mem_cons, List.not_mem_nil, or_false, forall_eq_or_imp, forall_eq, ne_eq, false_imp_iff, implies_true, and_true] at hF); replace hO := Own.sub (.cons_cons _ (.cons _ (.cons _ (.cons _ (.cons_cons _ .slnil))))) hO; refine wpList_append_item rfl _ _ 23 rfl 39 i0 (.agg #[.bool false, .int .i64 0, .int .i64 0, .int .i64 0, .int .i64 0, .bool false]) 6 48 Tryd.underlying23 hi0 hz0 hz1 hz2 rfl (by decide) rfl rfl hO rfl one6g (by unfold maxLen; omega) (by omega) ?_; clear hO hF d0 d1 d2 d3 d4 d5; intro v' w3 hO _; have hF := True.intro))
            go_roundw
            case rel => exact ⟨j + 1, by omega, by go_num, hOK.out, by rw [← HU.out, vcC_append]; rw [HF.out]; exact hO⟩
            case measure => simp [intOf]; omega
      · obtain ⟨hy, hoe⟩ := an_rest (f := f) (m := m) (h := h) (k := j) hr
        have HR := hid hr
        rw [hr] at d0
        have hways := by_ways (k := j) (h := h) (d := dz) (z := mz)
        have hOK := hid (show ∀ (k : Nat) (y : Nt), k < j + 1 → v[k]? = some y → anO f m h k y = true from fun k y hk hvy => by
          rcases (show k < j ∨ k = j by omega) with h | rfl
          · exact hok.out k y h hvy
          · rw [HX.out] at hvy; cases hvy; exact hoe)
        have HF := hid (show vcC [anX f m h j x] = [.bool true, .int .i64 x.s, .int .i64 x.a, .int .i64 x.o, .int .i64 x.t, .bool x.y] by rw [hy]; simp [vcC, ntC, HR.out])
        clear hr hy hoe hx hp hdz hmz hok
        rcases hways with q1 | ⟨q1, q2, q3⟩ | ⟨q1, rfl, q2, q3⟩ | ⟨q1, rfl, rfl⟩
        all_goals
          go_wp2_with (first | (go_at_call 57; apply own_at hO; (repeat (first | (with_reducible exact hO) | (with_reducible apply Own.alloc) | (with_reducible apply Own.drew) | ((with_reducible apply Own.set_at); (focus (show _ ≤ _; omega))))); have hG := hF; clear hF; clear hO; intro hO; refine own_call hO (fun hB => HD.out _) ?_; clear hO; intro w1 hO; (try simp only [World.size_alloc1, World.size_drew, Nat.reduceAdd] at hO); (try simp only [upd, updI, List.map_cons, List.map_nil, eq_self, if_true, if_false, reduceIte, Nat.add_eq_left, Nat.left_eq_add, Nat.reduceEqDiff, List.set_cons_zero, List.set_cons_succ, hG] at hO); clear hG; have hF := hO; (try simp only [Own, Item.Holds, apartI, CellsAt, Nat.reduceAdd, Nat.zero_add, List.mem_cons, List.not_mem_nil, or_false, forall_eq_or_imp, forall_eq, ne_eq, false_imp_iff, implies_true, and_true] at hF)) | (at_builtin; apply own_list hO; (repeat (first | (with_reducible exact hO) | (with_reducible apply Own.alloc) | (with_reducible apply Own.drew) | ((with_reducible apply Own.set_at); (focus (show _ ≤ _; omega))))); have hG := hF; clear hF; clear hO; intro hO; (try simp only [World.size_alloc1, World.size_drew, Nat.reduceAdd] at hO); (try simp only [upd, updI, List.map_cons, List.map_nil, eq_self, if_true, if_false, reduceIte, Nat.add_eq_left, Nat.left_eq_add, Nat.reduceEqDiff, List.set_cons_zero, List.set_cons_succ, hG] at hO); clear hG; (try simp only [World.size_setCell] at hO); have hF := hO; (try simp only [Own, Item.Holds, apartI, CellsAt, Nat.reduceAdd, Nat.zero_add, List.mem_cons, List.not_mem_nil, or_false, forall_eq_or_imp, forall_eq, ne_eq, false_imp_iff, implies_true, and_true] at hF); replace hO := Own.sub (.cons_cons _ (.cons _ (.cons _ (.cons_cons _ .slnil)))) hO; refine wpList_append_item rfl _ _ 23 rfl 39 i0 (.agg #[.bool false, .int .i64 0, .int .i64 0, .int .i64 0, .int .i64 0, .bool false]) 6 48 Tryd.underlying23 hi0 hz0 hz1 hz2 rfl (by decide) rfl rfl hO rfl one6g (by unfold maxLen; omega) (by omega) ?_; clear hO hF d0 d1 d2 d3 d4 d5; intro v' w3 hO _; have hF := True.intro))
          go_roundw
          case rel => exact ⟨j + 1, by omega, by go_num, hOK.out, by rw [← HU.out, vcC_append]; rw [HF.out]; exact hO⟩
          case measure => simp [intOf]; omega

set_option maxRecDepth 20000 in
set_option maxHeartbeats 4000000 in
theorem taS_out (f : Int) (m : Bool) (va : Value) (v : List Nt) (h : Int) (n : Nat) (w : World) (hnl : v.length = n) (hn : n ≤ 1048576) (hs : SlAt w va n 6 (vcC v)) (hv : (keyB f && voB v && inB h 0 n) = false) :
    Calls Tryd.prog 23 #[.int .i64 f, .bool m, va, .int .i64 h] w (RowOutB 39 6 0 [] false w) := by
  have hO := Own.start w
  have hF := True.intro
  obtain ⟨A, c, rfl, nb, _⟩ := hs.open
  obtain ⟨b, hvo⟩ : ∃ b, voB v = b := ⟨_, rfl⟩
  obtain ⟨b2, h2⟩ : ∃ b, inB h 0 n = b := ⟨_, rfl⟩
  obtain ⟨b1, h1⟩ : ∃ b, inB f (-7) 7 = b := ⟨_, rfl⟩
  have h1' : keyB f = b1 := h1
  rw [h1', hvo, h2] at hv
  have HV := hid (voS_is hnl hs hn hvo)
  clear hs hnl hvo h1' hn
  cases b1
  · clear hv
    go_enter Tryd.func23, Tryd.ntmps23
    go_wp2_with fail
    replace hO := hO.allocRow (e := 39) (cur := #[]) (k := 0) (cap := 0) 6 (by omega) (by unfold maxLen; omega) rfl
    go_wp2_with (first | (go_at_call 55; refine (in_any _ _ _ _).mono ?_; rintro e w1 ⟨rfl, rfl⟩) | (go_at_call 56; apply own_at hO; (repeat (first | (with_reducible exact hO) | (with_reducible apply Own.alloc) | (with_reducible apply Own.drew) | ((with_reducible apply Own.set_at); (focus (show _ ≤ _; omega))))); have hG := hF; clear hF; clear hO; intro hO; refine own_call hO (fun hB => HV.out _ hB) ?_; clear hO; intro w1 hO; (try simp only [World.size_alloc1, World.size_drew, Nat.reduceAdd] at hO); (try simp only [upd, updI, List.map_cons, List.map_nil, eq_self, if_true, if_false, reduceIte, Nat.add_eq_left, Nat.left_eq_add, Nat.reduceEqDiff, List.set_cons_zero, List.set_cons_succ, hG] at hO); clear hG; have hF := hO; (try simp only [Own, Item.Holds, apartI, CellsAt, Nat.reduceAdd, Nat.zero_add, List.mem_cons, List.not_mem_nil, or_false, forall_eq_or_imp, forall_eq, ne_eq, false_imp_iff, implies_true, and_true] at hF)))
    go_ret2
    exact RowOutB.mk (by first | exact hO | (repeat (first | (with_reducible exact hO) | (with_reducible apply Own.alloc) | (with_reducible apply Own.drew) | ((with_reducible apply Own.set_at); (focus (show _ ≤ _; omega))))))
  · cases b
    · clear hv
      go_enter Tryd.func23, Tryd.ntmps23
      go_wp2_with fail
      replace hO := hO.allocRow (e := 39) (cur := #[]) (k := 0) (cap := 0) 6 (by omega) (by unfold maxLen; omega) rfl
      go_wp2_with (first | (go_at_call 55; refine (in_any _ _ _ _).mono ?_; rintro e w1 ⟨rfl, rfl⟩) | (go_at_call 56; apply own_at hO; (repeat (first | (with_reducible exact hO) | (with_reducible apply Own.alloc) | (with_reducible apply Own.drew) | ((with_reducible apply Own.set_at); (focus (show _ ≤ _; omega))))); have hG := hF; clear hF; clear hO; intro hO; refine own_call hO (fun hB => HV.out _ hB) ?_; clear hO; intro w1 hO; (try simp only [World.size_alloc1, World.size_drew, Nat.reduceAdd] at hO); (try simp only [upd, updI, List.map_cons, List.map_nil, eq_self, if_true, if_false, reduceIte, Nat.add_eq_left, Nat.left_eq_add, Nat.reduceEqDiff, List.set_cons_zero, List.set_cons_succ, hG] at hO); clear hG; have hF := hO; (try simp only [Own, Item.Holds, apartI, CellsAt, Nat.reduceAdd, Nat.zero_add, List.mem_cons, List.not_mem_nil, or_false, forall_eq_or_imp, forall_eq, ne_eq, false_imp_iff, implies_true, and_true] at hF)))
      go_ret2
      exact RowOutB.mk (by first | exact hO | (repeat (first | (with_reducible exact hO) | (with_reducible apply Own.alloc) | (with_reducible apply Own.drew) | ((with_reducible apply Own.set_at); (focus (show _ ≤ _; omega))))))
    · obtain rfl : b2 = false := by simpa using hv
      clear hv
      go_enter Tryd.func23, Tryd.ntmps23
      go_wp2_with fail
      replace hO := hO.allocRow (e := 39) (cur := #[]) (k := 0) (cap := 0) 6 (by omega) (by unfold maxLen; omega) rfl
      go_wp2_with (first | (go_at_call 55; refine (in_any _ _ _ _).mono ?_; rintro e w1 ⟨rfl, rfl⟩) | (go_at_call 56; apply own_at hO; (repeat (first | (with_reducible exact hO) | (with_reducible apply Own.alloc) | (with_reducible apply Own.drew) | ((with_reducible apply Own.set_at); (focus (show _ ≤ _; omega))))); have hG := hF; clear hF; clear hO; intro hO; refine own_call hO (fun hB => HV.out _ hB) ?_; clear hO; intro w1 hO; (try simp only [World.size_alloc1, World.size_drew, Nat.reduceAdd] at hO); (try simp only [upd, updI, List.map_cons, List.map_nil, eq_self, if_true, if_false, reduceIte, Nat.add_eq_left, Nat.left_eq_add, Nat.reduceEqDiff, List.set_cons_zero, List.set_cons_succ, hG] at hO); clear hG; have hF := hO; (try simp only [Own, Item.Holds, apartI, CellsAt, Nat.reduceAdd, Nat.zero_add, List.mem_cons, List.not_mem_nil, or_false, forall_eq_or_imp, forall_eq, ne_eq, false_imp_iff, implies_true, and_true] at hF)))
      go_ret2
      exact RowOutB.mk (by first | exact hO | (repeat (first | (with_reducible exact hO) | (with_reducible apply Own.alloc) | (with_reducible apply Own.drew) | ((with_reducible apply Own.set_at); (focus (show _ ≤ _; omega))))))

theorem ta_guard {f : Int} {m : Bool} {v : List Nt} {h : Int} (hv : (keyB f && voB v && inB h 0 v.length) = false) : taB f m v h = false := by
  rw [← Bool.not_eq_true]
  intro hb
  obtain ⟨g1, g2, g3, g4, _⟩ := ta_iff.1 hb
  rw [g1, g2, inB_iff.2 ⟨g3, g4⟩] at hv
  cases hv
theorem taS_any (f : Int) (m : Bool) (va : Value) (v : List Nt) (h : Int) (w : World) (hs : SlAt w va v.length 6 (vcC v)) (hn : v.length ≤ 1048576) :
    Calls Tryd.prog 23 #[.int .i64 f, .bool m, va, .int .i64 h] w (RowOutB 39 6 (taL f m v h).length (vcC (taL f m v h)) (taB f m v h) w) := by
  cases hg : keyB f && voB v && inB h 0 v.length
  · have hb := ta_guard (m := m) hg
    rw [hb, taL_no hb]
    exact taS_out f m va v h _ w rfl hn hs hg
  · simp only [Bool.and_eq_true] at hg
    obtain ⟨⟨g1, g2⟩, g3⟩ := hg
    obtain ⟨g4, g5⟩ := inB_iff.1 g3
    exact taS_in f m va v h _ w rfl hs g1 g2 g4 g5
theorem taS_C (w : World) : CTa 23 w := fun f m va v h W _ hs hn _ _ => taS_any f m va v h W hs hn
end Go.Proofs.YtcgcnkddgihkpaaDoor
