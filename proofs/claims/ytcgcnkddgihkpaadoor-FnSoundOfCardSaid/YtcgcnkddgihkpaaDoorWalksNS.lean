/- The laws' own functions over voices: copies; equal ones are found equal. -/
import Derived.Test.YtcgcnkddgihkpaaDoorWalksNt
import Derived.Test.YtcgcnkddgihkpaaDoorOwn
import Derived.Test.YtcgcnkddgihkpaaDoorRegionD
namespace Go.Proofs.YtcgcnkddgihkpaaDoor
set_option linter.unusedSimpArgs false
set_option linter.unusedVariables false
set_option maxRecDepth 8000
open Go.RowKit

theorem noteAt {w : World} {b off cap n : Nat} {v : List Nt} (h : SlAt w (.slice (some ⟨b, off, none⟩) n cap) n 6 (vcC v)) {j : Nat} {x : Nt} (hx : v[j]? = some x) :
    w.cell? ⟨b, off + j * 6, none⟩ = some (.bool x.r) ∧ w.cell? ⟨b, off + j * 6 + 1, none⟩ = some (.int .i64 x.s) ∧ w.cell? ⟨b, off + j * 6 + 2, none⟩ = some (.int .i64 x.a) ∧ w.cell? ⟨b, off + j * 6 + 3, none⟩ = some (.int .i64 x.o) ∧ w.cell? ⟨b, off + j * 6 + 4, none⟩ = some (.int .i64 x.t) ∧ w.cell? ⟨b, off + j * 6 + 5, none⟩ = some (.bool x.y) := by
  obtain ⟨h0, h1, h2, h3, h4, h5⟩ := vcC_at hx
  exact ⟨h.cellAt h0, h.cellAt h1, h.cellAt h2, h.cellAt h3, h.cellAt h4, h.cellAt h5⟩

def nt0 : Nt := ⟨false, 0, 0, 0, 0, false⟩
theorem madeN (n : Nat) : (madeCells (Value.agg #[.bool false, .int .i64 0, .int .i64 0, .int .i64 0, .int .i64 0, .bool false]).cells (n * 6)).toList = vcC (List.replicate n nt0) := by
  have hz : (Value.agg #[.bool false, .int .i64 0, .int .i64 0, .int .i64 0, .int .i64 0, .bool false]).cells = #[.bool false, .int .i64 0, .int .i64 0, .int .i64 0, .int .i64 0, .bool false] := by kernel_rfl
  rw [hz]
  have := made_rep #[Value.bool false, .int .i64 0, .int .i64 0, .int .i64 0, .int .i64 0, .bool false] (by decide) n
  rw [show (#[Value.bool false, .int .i64 0, .int .i64 0, .int .i64 0, .int .i64 0, .bool false] : Array Value).size = 6 from rfl] at this
  rw [this, vcC, List.flatMap_def, List.map_replicate]
  rfl
theorem set6 {α : Type} {a b c d e f a' b' c' d' e' f' : α} {zs : List α} {i : Nat} : ∀ {xs : List α}, xs.length = i → ((((((xs ++ a :: b :: c :: d :: e :: f :: zs).set i a').set (i + 1) b').set (i + 2) c').set (i + 3) d').set (i + 4) e').set (i + 5) f' = xs ++ (a' :: b' :: c' :: d' :: e' :: f' :: zs) := by
  intro xs h
  subst h
  simp [List.set_append]
/-- Note j is laid. -/
theorem vcC_put {u : List Nt} {z x : Nt} {r : List Nt} {j : Nat} (h : u.length = j) :
    ((((((vcC (u ++ z :: r)).set (j * 6) (.bool x.r)).set (j * 6 + 1) (.int .i64 x.s)).set (j * 6 + 2) (.int .i64 x.a)).set (j * 6 + 3) (.int .i64 x.o)).set (j * 6 + 4) (.int .i64 x.t)).set (j * 6 + 5) (.bool x.y) = vcC (u ++ x :: r) := by
  have hl := vcC_len u
  rw [vcC_append, vcC_append]
  show ((((((vcC u ++ (_ :: _ :: _ :: _ :: _ :: _ :: vcC r)).set _ _).set _ _).set _ _).set _ _).set _ _).set _ _ = _
  rw [set6 (by omega)]
  rfl
/-- The first j notes are laid, the others are zero. -/
def mixN (v : List Nt) (j : Nat) : List Nt := v.take j ++ List.replicate (v.length - j) nt0
theorem mixN_len (v : List Nt) (j : Nat) (h : j ≤ v.length) : (mixN v j).length = v.length := by simp [mixN]; omega
theorem mixN_full (v : List Nt) : mixN v v.length = v := by simp [mixN]
theorem mixN_zero (v : List Nt) : mixN v 0 = List.replicate v.length nt0 := by simp [mixN]
theorem mixN_put {v : List Nt} {j : Nat} {x : Nt} (hx : v[j]? = some x) :
    ((((((vcC (mixN v j)).set (j * 6) (.bool x.r)).set (j * 6 + 1) (.int .i64 x.s)).set (j * 6 + 2) (.int .i64 x.a)).set (j * 6 + 3) (.int .i64 x.o)).set (j * 6 + 4) (.int .i64 x.t)).set (j * 6 + 5) (.bool x.y) = vcC (mixN v (j + 1)) := by
  have hl := (List.getElem?_eq_some_iff.1 hx).1
  unfold mixN
  rw [show v.length - j = (v.length - (j + 1)) + 1 by omega, List.replicate_succ, vcC_put (by simp; omega), List.take_add_one, hx]
  simp [vcC_append]

set_option maxHeartbeats 4000000 in
theorem toNS_any (va : Value) (v : List Nt) (w : World) (ha : SlAt w va v.length 6 (vcC v)) (hn : v.length ≤ 1048576) :
    Calls Tryd.prog 31 #[va] w (RowOut 39 6 v.length (vcC v) w) := by
  have hO := Own.start w
  have hF := True.intro
  obtain ⟨i0, hi, hz0, hz1, hz2⟩ := info_parts infoN
  obtain ⟨A, c, rfl, nb, hA⟩ := ha.open
  have HA := hid ha
  clear ha
  obtain ⟨n, hnl⟩ : ∃ n, v.length = n := ⟨_, rfl⟩
  have HN := hid hnl
  rw [hnl] at hn nb hA HA
  rw [hnl]
  go_enter Tryd.func31, Tryd.ntmps31
  go_wp2_with (at_make; go_loud (refine wpList_make_item rfl _ _ 23 rfl 39 i0 (.agg #[.bool false, .int .i64 0, .int .i64 0, .int .i64 0, .int .i64 0, .bool false]) 6 48 Tryd.underlying23 hi hz0 hz1 hz2 _ _ _ _ n rfl rfl rfl rfl (by omega) (by unfold maxLen; omega) (by (repeat (first | (with_reducible exact hO) | (with_reducible apply Own.alloc) | (with_reducible apply Own.drew) | ((with_reducible apply Own.set_at); (focus (show _ ≤ _; omega)))))) ?_); clear hO hF; intro q w2 hO; have hF := True.intro)
  rw [madeN n, show List.replicate n nt0 = mixN v 0 by rw [mixN_zero, hnl]] at hO
  clear hnl
  go_loopw [4] (fun t wr => ∃ j : Nat, j ≤ n ∧ t = .int .i64 j ∧ Own w.heap.size (Below w.heap.size w) wr [.row 39 6 (.slice (some ⟨q, 0, none⟩) n n) n (vcC (mixN v j))]) (fun t _ => n - (intOf t).toNat)
  case atStart => exact ⟨0, by omega, rfl, hO⟩
  case round =>
    clear hO
    obtain ⟨j, hj, rfl, hO⟩ := hrel
    by_cases he : j = n
    · subst he
      rw [show mixN v j = v by rw [← HN.out]; exact mixN_full v] at hO
      go_wp2_with fail
      go_ret
      exact RowOut.mk hO
    · have hlt : j < n := by omega
      have hlt2 : (j : Int) < n := by omega
      obtain ⟨b, off, rfl, hc1, hc2, hb⟩ := hA (by omega)
      obtain ⟨x, hx⟩ : ∃ x, v[j]? = some x := ⟨_, List.getElem?_eq_getElem (by have := HN.out; omega)⟩
      have hm := mixN_len v j (by have := HN.out; omega)
      obtain ⟨z, hz⟩ : ∃ z, (mixN v j)[j]? = some z := ⟨_, List.getElem?_eq_getElem (by have := HN.out; omega)⟩
      obtain ⟨d0, d1, d2, d3, d4, d5⟩ := noteAt (HA.out.below hO.base) hx
      obtain ⟨E0, E1, E2, E3, E4, E5⟩ := vcC_at hz
      have HE := hid (And.intro E0 (And.intro E1 (And.intro E2 (And.intro E3 (And.intro E4 E5)))))
      have HP := hid (mixN_put hx)
      clear he hj hm hz E0 E1 E2 E3 E4 E5 hx
      have hF := True.intro
      go_wp2_with ((go_at_call 67; apply own_at hO; (repeat (first | (with_reducible exact hO) | (with_reducible apply Own.alloc) | (with_reducible apply Own.drew) | ((with_reducible apply Own.set_at); (focus (show _ ≤ _; omega))))); have hG := hF; clear hF; clear hO; intro hO; refine own_call hO (fun hB => toNote_any x _) ?_; clear hO; intro w1 hO; (try simp only [World.size_alloc1, World.size_drew, Nat.reduceAdd] at hO); (try simp only [upd, updI, List.map_cons, List.map_nil, eq_self, if_true, if_false, reduceIte, Nat.add_eq_left, Nat.left_eq_add, Nat.reduceEqDiff, List.set_cons_zero, List.set_cons_succ, hG] at hO); clear hG; have hF := hO; (try simp only [Own, Item.Holds, apartI, CellsAt, Nat.reduceAdd, Nat.zero_add, List.mem_cons, List.not_mem_nil, or_false, forall_eq_or_imp, forall_eq, ne_eq, false_imp_iff, implies_true, and_true] at hF)); have c0 := hO.row_cell HE.out.1; have c1 := hO.row_cell HE.out.2.1; have c2 := hO.row_cell HE.out.2.2.1; have c3 := hO.row_cell HE.out.2.2.2.1; have c4 := hO.row_cell HE.out.2.2.2.2.1; have c5 := hO.row_cell HE.out.2.2.2.2.2; have r0 := hO.row_free (j * 6); have r1 := hO.row_free (j * 6 + 1); have r2 := hO.row_free (j * 6 + 2); have r3 := hO.row_free (j * 6 + 3); have r4 := hO.row_free (j * 6 + 4); have r5 := hO.row_free (j * 6 + 5); have hO2 := (((((hO.row_set (j * 6) (.bool x.r)).row_set (j * 6 + 1) (.int .i64 x.s)).row_set (j * 6 + 2) (.int .i64 x.a)).row_set (j * 6 + 3) (.int .i64 x.o)).row_set (j * 6 + 4) (.int .i64 x.t)).row_set (j * 6 + 5) (.bool x.y); rw [HP.out] at hO2; clear hO hF)
      go_roundw
      case rel => exact ⟨j + 1, by omega, by go_num, hO2⟩
      case measure => simp [intOf]; omega

set_option maxRecDepth 8000 in
set_option maxHeartbeats 4000000 in
theorem eqNoteS_same (va vb : Value) (v : List Nt) (w : World) (ha : SlAt w va v.length 6 (vcC v)) (hb : SlAt w vb v.length 6 (vcC v)) :
    Calls Tryd.prog 32 #[va, vb] w fun e w' => e = .returned (.bool true) ∧ Below w.heap.size w w' := by
  have hO := Own.start w
  have hF := True.intro
  obtain ⟨A, c, rfl, nb, hA⟩ := ha.open
  obtain ⟨A', c', rfl, nb', hA'⟩ := hb.open
  have HA := hid (And.intro ha hb)
  clear ha hb
  obtain ⟨n, hnl⟩ : ∃ n, v.length = n := ⟨_, rfl⟩
  have HN := hid hnl
  rw [hnl] at nb hA nb' hA' HA
  rw [hnl]
  clear hnl
  go_enter Tryd.func32, Tryd.ntmps32
  go_wp2
  go_loopw [5] (fun t wr => ∃ j : Nat, j ≤ n ∧ t = .int .i64 j ∧ Own w.heap.size (Below w.heap.size w) wr []) (fun t _ => n - (intOf t).toNat)
  case atStart => exact ⟨0, by omega, rfl, hO⟩
  case round =>
    clear hO
    obtain ⟨j, hj, rfl, hO⟩ := hrel
    by_cases he : j = n
    · subst he
      go_wp2
      go_ret
      exact ⟨rfl, hO.base⟩
    · have hlt : j < n := by omega
      have hlt2 : (j : Int) < n := by omega
      obtain ⟨b, off, rfl, hc1, hc2, hb⟩ := hA (by omega)
      obtain ⟨b', off', rfl, hc1', hc2', hb'⟩ := hA' (by omega)
      obtain ⟨x, hx⟩ : ∃ x, v[j]? = some x := ⟨_, List.getElem?_eq_getElem (by have := HN.out; omega)⟩
      have HX := hid hx
      clear he hx
      go_wp2
      apply own_code hO
      (repeat (first | (with_reducible exact hO) | (with_reducible apply Own.alloc) | (with_reducible apply Own.drew) | ((with_reducible apply Own.set_at); (focus (show _ ≤ _; omega)))))
      have hG := hF; clear hF; clear hO; intro hO
      (try simp only [World.size_alloc1, World.size_drew, Nat.reduceAdd] at hO); (try simp only [upd, updI, List.map_cons, List.map_nil, eq_self, if_true, if_false, reduceIte, Nat.add_eq_left, Nat.left_eq_add, Nat.reduceEqDiff, List.set_cons_zero, List.set_cons_succ, hG] at hO); clear hG
      refine region_own (X := fun _ => True) [] (by kernel_rfl) (hO) (trivial) (by first | exact XStab.true | exact XStab.rd | exact XStab.rdIf) ?_
      clear hO
      refine Sim.sP (i := 0) (d := some 17) (h := ?_)
      refine Sim.sP (i := 1) (d := some 18) (h := ?_)
      refine Sim.sP (i := 2) (d := some 19) (h := ?_)
      refine Sim.sO (i := 3) (d := some 20) (v := ?_) (hy := ?_) (h := ?_)
      rotate_left
      · first | refine Or.inl ⟨by rfl, fun w hO => ?_⟩ | (refine Or.inr ⟨by rfl, ?_⟩; with_reducible rfl)
        first | done | (have hF := hO; (try simp only [Own, Item.Holds, apartI, CellsAt, Nat.reduceAdd, Nat.zero_add, List.mem_cons, List.not_mem_nil, or_false, forall_eq_or_imp, forall_eq, ne_eq, false_imp_iff, implies_true, and_true] at hF); ((have ⟨d0, d1, d2, d3, d4, d5⟩ := noteAt (HA.out.1.below hO.base) HX.out; have ⟨g0, g1, g2, g3, g4, g5⟩ := noteAt (HA.out.2.below hO.base) HX.out)); refine Out.same ?_; go_simp; all_goals with_reducible rfl)
      refine Sim.sP (i := 4) (d := some 21) (h := ?_)
      refine Sim.sP (i := 5) (d := some 22) (h := ?_)
      refine Sim.sP (i := 6) (d := some 23) (h := ?_)
      refine Sim.sO (i := 7) (d := some 24) (v := ?_) (hy := ?_) (h := ?_)
      rotate_left
      · first | refine Or.inl ⟨by rfl, fun w hO => ?_⟩ | (refine Or.inr ⟨by rfl, ?_⟩; with_reducible rfl)
        first | done | (have hF := hO; (try simp only [Own, Item.Holds, apartI, CellsAt, Nat.reduceAdd, Nat.zero_add, List.mem_cons, List.not_mem_nil, or_false, forall_eq_or_imp, forall_eq, ne_eq, false_imp_iff, implies_true, and_true] at hF); ((have ⟨d0, d1, d2, d3, d4, d5⟩ := noteAt (HA.out.1.below hO.base) HX.out; have ⟨g0, g1, g2, g3, g4, g5⟩ := noteAt (HA.out.2.below hO.base) HX.out)); refine Out.same ?_; go_simp; all_goals with_reducible rfl)
      refine Sim.sO (i := 8) (d := some 25) (v := ?_) (hy := ?_) (h := ?_)
      rotate_left
      · first | refine Or.inl ⟨by rfl, fun w hO => ?_⟩ | (refine Or.inr ⟨by rfl, ?_⟩; with_reducible rfl)
        first | done | (refine Out.call (f := 68) (args := ?_) ?_ ?_; rotate_left; (focus (go_simp; all_goals with_reducible rfl)); exact eqNote_same x _)
      refine Sim.sP (i := 9) (d := some 26) (h := ?_)
      refine Sim.done (by kernel_rfl) (fun w1 hO hX => ?_) _
      (try simp only [World.size_alloc1, World.size_drew, Nat.reduceAdd] at hO); (try simp only [upd, updI, List.map_cons, List.map_nil, eq_self, if_true, if_false, reduceIte, Nat.add_eq_left, Nat.left_eq_add, Nat.reduceEqDiff, List.set_cons_zero, List.set_cons_succ] at hO)
      have hF := hO; (try simp only [Own, Item.Holds, apartI, CellsAt, Nat.reduceAdd, Nat.zero_add, List.mem_cons, List.not_mem_nil, or_false, forall_eq_or_imp, forall_eq, ne_eq, false_imp_iff, implies_true, and_true] at hF)
      go_wp2
      go_roundw
      case rel => exact ⟨j + 1, by omega, by go_num, hO⟩
      case measure => simp [intOf]; omega

set_option maxRecDepth 8000 in
set_option maxHeartbeats 4000000 in
theorem sameVoice_same (va vb : Value) (v : List Nt) (w : World) (ha : SlAt w va v.length 6 (vcC v)) (hb : SlAt w vb v.length 6 (vcC v)) :
    Calls Tryd.prog 18 #[va, vb] w fun e w' => e = .returned (.bool true) ∧ Below w.heap.size w w' := by
  have hO := Own.start w
  have hF := True.intro
  obtain ⟨A, c, rfl, nb, hA⟩ := ha.open
  obtain ⟨A', c', rfl, nb', hA'⟩ := hb.open
  have HA := hid (And.intro ha hb)
  clear ha hb
  obtain ⟨n, hnl⟩ : ∃ n, v.length = n := ⟨_, rfl⟩
  have HN := hid hnl
  rw [hnl] at nb hA nb' hA' HA
  rw [hnl]
  clear hnl
  go_enter Tryd.func18, Tryd.ntmps18
  go_wp2
  go_loopw [5] (fun t wr => ∃ j : Nat, j ≤ n ∧ t = .int .i64 j ∧ Own w.heap.size (Below w.heap.size w) wr []) (fun t _ => n - (intOf t).toNat)
  case atStart => exact ⟨0, by omega, rfl, hO⟩
  case round =>
    clear hO
    obtain ⟨j, hj, rfl, hO⟩ := hrel
    by_cases he : j = n
    · subst he
      go_wp2
      go_ret
      exact ⟨rfl, hO.base⟩
    · have hlt : j < n := by omega
      have hlt2 : (j : Int) < n := by omega
      obtain ⟨b, off, rfl, hc1, hc2, hb⟩ := hA (by omega)
      obtain ⟨b', off', rfl, hc1', hc2', hb'⟩ := hA' (by omega)
      obtain ⟨x, hx⟩ : ∃ x, v[j]? = some x := ⟨_, List.getElem?_eq_getElem (by have := HN.out; omega)⟩
      have HX := hid hx
      clear he hx
      go_wp2
      apply own_code hO
      (repeat (first | (with_reducible exact hO) | (with_reducible apply Own.alloc) | (with_reducible apply Own.drew) | ((with_reducible apply Own.set_at); (focus (show _ ≤ _; omega)))))
      have hG := hF; clear hF; clear hO; intro hO
      (try simp only [World.size_alloc1, World.size_drew, Nat.reduceAdd] at hO); (try simp only [upd, updI, List.map_cons, List.map_nil, eq_self, if_true, if_false, reduceIte, Nat.add_eq_left, Nat.left_eq_add, Nat.reduceEqDiff, List.set_cons_zero, List.set_cons_succ, hG] at hO); clear hG
      refine region_own (X := fun _ => True) [] (by kernel_rfl) (hO) (trivial) (by first | exact XStab.true | exact XStab.rd | exact XStab.rdIf) ?_
      clear hO
      refine Sim.sP (i := 0) (d := some 17) (h := ?_)
      refine Sim.sP (i := 1) (d := some 18) (h := ?_)
      refine Sim.sP (i := 2) (d := some 19) (h := ?_)
      refine Sim.sO (i := 3) (d := some 20) (v := ?_) (hy := ?_) (h := ?_)
      rotate_left
      · first | refine Or.inl ⟨by rfl, fun w hO => ?_⟩ | (refine Or.inr ⟨by rfl, ?_⟩; with_reducible rfl)
        first | done | (have hF := hO; (try simp only [Own, Item.Holds, apartI, CellsAt, Nat.reduceAdd, Nat.zero_add, List.mem_cons, List.not_mem_nil, or_false, forall_eq_or_imp, forall_eq, ne_eq, false_imp_iff, implies_true, and_true] at hF); ((have ⟨d0, d1, d2, d3, d4, d5⟩ := noteAt (HA.out.1.below hO.base) HX.out; have ⟨g0, g1, g2, g3, g4, g5⟩ := noteAt (HA.out.2.below hO.base) HX.out)); refine Out.same ?_; go_simp; all_goals with_reducible rfl)
      refine Sim.sP (i := 4) (d := some 21) (h := ?_)
      refine Sim.sP (i := 5) (d := some 22) (h := ?_)
      refine Sim.sP (i := 6) (d := some 23) (h := ?_)
      refine Sim.sO (i := 7) (d := some 24) (v := ?_) (hy := ?_) (h := ?_)
      rotate_left
      · first | refine Or.inl ⟨by rfl, fun w hO => ?_⟩ | (refine Or.inr ⟨by rfl, ?_⟩; with_reducible rfl)
        first | done | (have hF := hO; (try simp only [Own, Item.Holds, apartI, CellsAt, Nat.reduceAdd, Nat.zero_add, List.mem_cons, List.not_mem_nil, or_false, forall_eq_or_imp, forall_eq, ne_eq, false_imp_iff, implies_true, and_true] at hF); ((have ⟨d0, d1, d2, d3, d4, d5⟩ := noteAt (HA.out.1.below hO.base) HX.out; have ⟨g0, g1, g2, g3, g4, g5⟩ := noteAt (HA.out.2.below hO.base) HX.out)); refine Out.same ?_; go_simp; all_goals with_reducible rfl)
      refine Sim.sP (i := 8) (d := some 25) (h := ?_)
      refine Sim.done (by kernel_rfl) (fun w1 hO hX => ?_) _
      (try simp only [World.size_alloc1, World.size_drew, Nat.reduceAdd] at hO); (try simp only [upd, updI, List.map_cons, List.map_nil, eq_self, if_true, if_false, reduceIte, Nat.add_eq_left, Nat.left_eq_add, Nat.reduceEqDiff, List.set_cons_zero, List.set_cons_succ] at hO)
      have hF := hO; (try simp only [Own, Item.Holds, apartI, CellsAt, Nat.reduceAdd, Nat.zero_add, List.mem_cons, List.not_mem_nil, or_false, forall_eq_or_imp, forall_eq, ne_eq, false_imp_iff, implies_true, and_true] at hF)
      go_wp2
      go_roundw
      case rel => exact ⟨j + 1, by omega, by go_num, hO⟩
      case measure => simp [intOf]; omega

end Go.Proofs.YtcgcnkddgihkpaaDoor
