/- Chapter 5 in the model: ticks of a voice; the note at a tick; turned voices. -/
import Derived.Test.YtmkhpafcgobfhaaDoorWalks5S
import Derived.Test.YtmkhpafcgobfhaaDoorPure5
import Derived.Test.YtmkhpafcgobfhaaDoorRegionD
namespace Go.Proofs.YtmkhpafcgobfhaaDoor
set_option linter.unusedSimpArgs false
set_option linter.unusedVariables false
set_option maxRecDepth 8000
open Go.RowKit

theorem sumT_up {v : List Nt} {j : Nat} {x : Nt} (hx : v[j]? = some x) : sumT (v.take (j + 1)) = sumT (v.take j) + x.t := by
  rw [List.take_add_one, hx, sumT_append]; simp [sumT]
theorem sumT_bd {v : List Nt} (h : voB v = true) (j : Nat) : 0 ≤ sumT (v.take j) ∧ sumT (v.take j) ≤ 46080 := by
  obtain ⟨h1, h2⟩ := voB_iff.1 h
  have ha : sumT v = sumT (v.take j) + sumT (v.drop j) := by rw [← sumT_append, List.take_append_drop]
  have hb := sumT_pos h1
  have hc := sumT_pos (tieB_drop h1 j)
  have hd : ∀ (l : List Nt), (∀ x ∈ l, 0 ≤ x.t) → 0 ≤ sumT l := by
    intro l
    induction l with
    | nil => intro _; simp [sumT]
    | cons a l ih => intro hl; have := hl a (by simp); have := ih (fun x hx => hl x (by simp [hx])); simp only [sumT]; omega
  have he := hd (v.take j) (fun x hx => by
    obtain ⟨i, hi⟩ := List.getElem?_of_mem (List.mem_of_mem_take hx)
    have := nv_pos (tieB_at h1 hi)
    omega)
  omega
theorem vo_at {v : List Nt} (h : voB v = true) {j : Nat} {x : Nt} (hx : v[j]? = some x) : 1 ≤ x.t ∧ x.t ≤ 768 := nv_pos (tieB_at (voB_iff.1 h).1 hx)
theorem voS_is {va : Value} {v : List Nt} {w : World} {n : Nat} {b : Bool} (hn : v.length = n) (ha : SlAt w va n 6 (vcC v)) (hl : n ≤ 1048576) (h : voB v = b) (W : World) (hW : Below w.heap.size w W) :
    Calls Tryd.prog 68 #[va] W fun e w' => e = .returned (.bool b) ∧ Below W.heap.size W w' := by
  subst hn h
  exact voS_any va v W (ha.below hW) hl

set_option maxHeartbeats 4000000 in
theorem vtS_any (va : Value) (v : List Nt) (w : World) (ha : SlAt w va v.length 6 (vcC v)) (hn : v.length ≤ 1048576) :
    Calls Tryd.prog 71 #[va] w fun e w' => e = .returned (.int .i64 (vtZ v)) ∧ Below w.heap.size w w' := by
  have hO := Own.start w
  have hF := True.intro
  obtain ⟨A, c, rfl, nb, hA⟩ := ha.open
  have HA := hid ha
  clear ha
  obtain ⟨n, hnl⟩ : ∃ n, v.length = n := ⟨_, rfl⟩
  have HN := hid hnl
  rw [hnl] at hn nb hA HA
  cases hv : voB v
  · have HE := hid (show vtZ v = -1 by unfold vtZ; rw [hv]; rfl)
    have HV := hid (voS_is hnl HA.out hn hv)
    rw [hnl]
    clear hnl hv
    go_enter Tryd.func71, Tryd.ntmps71
    go_wp2_with (go_at_call 68; apply own_at hO; (repeat (first | (with_reducible exact hO) | (with_reducible apply Own.alloc) | (with_reducible apply Own.drew) | ((with_reducible apply Own.set_at); (focus (show _ ≤ _; omega))))); have hG := hF; clear hF; clear hO; intro hO; refine own_call hO (fun hB => HV.out _ hB) ?_; clear hO; intro w1 hO; (try simp only [World.size_alloc1, World.size_drew, Nat.reduceAdd] at hO); (try simp only [upd, updI, List.map_cons, List.map_nil, eq_self, if_true, if_false, reduceIte, Nat.add_eq_left, Nat.left_eq_add, Nat.reduceEqDiff, List.set_cons_zero, List.set_cons_succ, hG] at hO); clear hG; have hF := hO; (try simp only [Own, Item.Holds, apartI, CellsAt, Nat.reduceAdd, Nat.zero_add, List.mem_cons, List.not_mem_nil, or_false, forall_eq_or_imp, forall_eq, ne_eq, false_imp_iff, implies_true, and_true] at hF))
    go_ret
    exact ⟨ret_int HE.out.symm, Own.base (by (repeat (first | (with_reducible exact hO) | (with_reducible apply Own.alloc) | (with_reducible apply Own.drew) | ((with_reducible apply Own.set_at); (focus (show _ ≤ _; omega))))))⟩
  · have HE := hid (show vtZ v = sumT v by unfold vtZ; rw [hv]; rfl)
    have HV := hid (voS_is hnl HA.out hn hv)
    have HVO := hid hv
    rw [hnl]
    clear hnl hv
    go_enter Tryd.func71, Tryd.ntmps71
    go_wp2_with (go_at_call 68; apply own_at hO; (repeat (first | (with_reducible exact hO) | (with_reducible apply Own.alloc) | (with_reducible apply Own.drew) | ((with_reducible apply Own.set_at); (focus (show _ ≤ _; omega))))); have hG := hF; clear hF; clear hO; intro hO; refine own_call hO (fun hB => HV.out _ hB) ?_; clear hO; intro w1 hO; (try simp only [World.size_alloc1, World.size_drew, Nat.reduceAdd] at hO); (try simp only [upd, updI, List.map_cons, List.map_nil, eq_self, if_true, if_false, reduceIte, Nat.add_eq_left, Nat.left_eq_add, Nat.reduceEqDiff, List.set_cons_zero, List.set_cons_succ, hG] at hO); clear hG; have hF := hO; (try simp only [Own, Item.Holds, apartI, CellsAt, Nat.reduceAdd, Nat.zero_add, List.mem_cons, List.not_mem_nil, or_false, forall_eq_or_imp, forall_eq, ne_eq, false_imp_iff, implies_true, and_true] at hF))
    (apply own_code hO; (repeat (first | (with_reducible exact hO) | (with_reducible apply Own.alloc) | (with_reducible apply Own.drew) | ((with_reducible apply Own.set_at); (focus (show _ ≤ _; omega))))); have hG := hF; clear hF; clear hO; intro hO; (try simp only [World.size_alloc1, World.size_drew, Nat.reduceAdd] at hO); (try simp only [upd, updI, List.map_cons, List.map_nil, eq_self, if_true, if_false, reduceIte, Nat.add_eq_left, Nat.left_eq_add, Nat.reduceEqDiff, List.set_cons_zero, List.set_cons_succ, hG] at hO); clear hG; have hF := hO; (try simp only [Own, Item.Holds, apartI, CellsAt, Nat.reduceAdd, Nat.zero_add, List.mem_cons, List.not_mem_nil, or_false, forall_eq_or_imp, forall_eq, ne_eq, false_imp_iff, implies_true, and_true] at hF))
    go_loopw [3, 4] (fun s t wr => ∃ j : Nat, j ≤ n ∧ t = .int .i64 j ∧ s = .int .i64 (sumT (v.take j)) ∧ Own w.heap.size (Below w.heap.size w) wr []) (fun _ t _ => n - (intOf t).toNat)
    case atStart => exact ⟨0, by omega, rfl, rfl, hO⟩
    case round =>
      clear hO hF
      obtain ⟨j, hj, rfl, rfl, hO⟩ := hrel
      by_cases he : j = n
      · subst he
        have e1 : sumT (v.take j) = vtZ v := by rw [HE.out, ← HN.out, List.take_length]
        rw [e1]
        go_wp2
        go_ret
        exact ⟨rfl, hO.base⟩
      · have hlt : j < n := by omega
        have hlt2 : (j : Int) < n := by omega
        obtain ⟨b, off, rfl, hc1, hc2, hb⟩ := hA (by omega)
        obtain ⟨x, hx⟩ : ∃ x, v[j]? = some x := ⟨_, List.getElem?_eq_getElem (by have := HN.out; omega)⟩
        obtain ⟨d0, d1, d2, d3, d4, d5⟩ := noteAt (HA.out.below hO.base) hx
        have xb := vo_at HVO.out hx
        have sb := sumT_bd HVO.out j
        have HS := hid (sumT_up hx)
        obtain ⟨s, hs⟩ : ∃ s, sumT (v.take j) = s := ⟨_, rfl⟩
        rw [hs] at sb HS
        rw [hs]
        clear he hx hs
        go_wp2
        go_roundw
        case rel => exact ⟨j + 1, by omega, by go_num, by rw [HS.out], hO⟩
        case measure => simp [intOf]; omega

set_option maxHeartbeats 4000000 in
theorem naS_any (va : Value) (v : List Nt) (tick : Int) (w : World) (ha : SlAt w va v.length 6 (vcC v)) (hn : v.length ≤ 1048576) (ht : tick ≤ 9223372036854775807) :
    Calls Tryd.prog 88 #[va, .int .i64 tick] w fun e w' => e = .returned (.int .i64 (naZ v tick)) ∧ Below w.heap.size w w' := by
  have hO := Own.start w
  have hF := True.intro
  obtain ⟨A, c, rfl, nb, hA⟩ := ha.open
  have HA := hid ha
  clear ha
  obtain ⟨n, hnl⟩ : ∃ n, v.length = n := ⟨_, rfl⟩
  have HN := hid hnl
  rw [hnl] at hn nb hA HA
  by_cases hne : n = 0
  · obtain rfl : v = [] := List.eq_nil_of_length_eq_zero (by omega)
    have HE := hid (show naZ [] tick = -1 by unfold naZ; simp [naL])
    subst hne
    rw [hnl]
    clear hnl
    go_enter Tryd.func88, Tryd.ntmps88
    go_wp2
    go_loop [5] (fun t => t = .int .i64 0) (fun _ => 0)
    case atStart => rfl
    case round =>
      obtain rfl := hrel
      go_wp2
      go_ret
      exact ⟨ret_int HE.out.symm, hO.base⟩
  have hpos : (0 : Int) < n := by omega
  cases hv : voB v
  · have HE := hid (show naZ v tick = -1 by unfold naZ; rw [hv]; rfl)
    have HV := hid (voS_is hnl HA.out hn hv)
    rw [hnl]
    clear hnl hv hne
    go_enter Tryd.func88, Tryd.ntmps88
    go_wp2
    go_loop [5] (fun t => t = .int .i64 0) (fun _ => 0)
    case atStart => rfl
    case round =>
      obtain rfl := hrel
      go_wp2_with (go_at_call 68; apply own_at hO; (repeat (first | (with_reducible exact hO) | (with_reducible apply Own.alloc) | (with_reducible apply Own.drew) | ((with_reducible apply Own.set_at); (focus (show _ ≤ _; omega))))); have hG := hF; clear hF; clear hO; intro hO; refine own_call hO (fun hB => HV.out _ hB) ?_; clear hO; intro w1 hO; (try simp only [World.size_alloc1, World.size_drew, Nat.reduceAdd] at hO); (try simp only [upd, updI, List.map_cons, List.map_nil, eq_self, if_true, if_false, reduceIte, Nat.add_eq_left, Nat.left_eq_add, Nat.reduceEqDiff, List.set_cons_zero, List.set_cons_succ, hG] at hO); clear hG; have hF := hO; (try simp only [Own, Item.Holds, apartI, CellsAt, Nat.reduceAdd, Nat.zero_add, List.mem_cons, List.not_mem_nil, or_false, forall_eq_or_imp, forall_eq, ne_eq, false_imp_iff, implies_true, and_true] at hF))
      go_ret
      exact ⟨ret_int HE.out.symm, Own.base (by (repeat (first | (with_reducible exact hO) | (with_reducible apply Own.alloc) | (with_reducible apply Own.drew) | ((with_reducible apply Own.set_at); (focus (show _ ≤ _; omega))))))⟩
  by_cases h0 : 0 ≤ tick
  · have HE := hid (show naZ v tick = naL 0 v tick by simp [naZ, hv, h0])
    have HV := hid (voS_is hnl HA.out hn hv)
    have HVO := hid hv
    rw [hnl]
    clear hnl hv hne
    go_enter Tryd.func88, Tryd.ntmps88
    go_wp2
    go_loopw [1, 5] (fun s t wr => ∃ (j : Nat) (m : Int), j ≤ n ∧ 0 ≤ m ∧ m ≤ tick ∧ t = .int .i64 j ∧ s = .int .i64 m ∧ Hid (naL 0 v tick = naL j (v.drop j) m) ∧ Own w.heap.size (Below w.heap.size w) wr []) (fun _ t _ => n - (intOf t).toNat)
    case atStart => exact ⟨0, tick, by omega, h0, by omega, rfl, rfl, rfl, hO⟩
    case round =>
      clear hO hF
      obtain ⟨j, m, hj, m0, m1, rfl, rfl, HM, hO⟩ := hrel
      have hF := True.intro
      by_cases he : j = n
      · subst he
        have HE2 := hid (show naZ v tick = -1 by rw [HE.out, HM.out, ← HN.out, List.drop_length]; rfl)
        go_wp2
        go_ret
        exact ⟨ret_int HE2.out.symm, hO.base⟩
      · have hlt : j < n := by omega
        have hlt2 : (j : Int) < n := by omega
        obtain ⟨b, off, rfl, hc1, hc2, hb⟩ := hA (by omega)
        have hjv : j < v.length := by have := HN.out; omega
        obtain ⟨x, hx⟩ : ∃ x, v[j]? = some x := ⟨_, List.getElem?_eq_getElem hjv⟩
        have hd : v.drop j = x :: v.drop (j + 1) := by
          rw [List.drop_eq_getElem_cons hjv]; congr 1
          rw [List.getElem?_eq_getElem hjv] at hx; exact Option.some.inj hx
        have HX := hid hx
        have xb := vo_at HVO.out hx
        have HD := hid hd
        clear he hx hd hjv
        by_cases hlt3 : m < x.t
        · have HE2 := hid (show naZ v tick = j by rw [HE.out, HM.out, HD.out, naL, if_pos hlt3])
          go_wp2_with ((go_at_call 68; apply own_at hO; (repeat (first | (with_reducible exact hO) | (with_reducible apply Own.alloc) | (with_reducible apply Own.drew) | ((with_reducible apply Own.set_at); (focus (show _ ≤ _; omega))))); have hG := hF; clear hF; clear hO; intro hO; refine own_call hO (fun hB => HV.out _ hB) ?_; clear hO; intro w1 hO; (try simp only [World.size_alloc1, World.size_drew, Nat.reduceAdd] at hO); (try simp only [upd, updI, List.map_cons, List.map_nil, eq_self, if_true, if_false, reduceIte, Nat.add_eq_left, Nat.left_eq_add, Nat.reduceEqDiff, List.set_cons_zero, List.set_cons_succ, hG] at hO); clear hG; have hF := hO; (try simp only [Own, Item.Holds, apartI, CellsAt, Nat.reduceAdd, Nat.zero_add, List.mem_cons, List.not_mem_nil, or_false, forall_eq_or_imp, forall_eq, ne_eq, false_imp_iff, implies_true, and_true] at hF)); have ⟨d0, d1, d2, d3, d4, d5⟩ := noteAt (HA.out.below hO.base) HX.out)
          go_ret
          exact ⟨ret_int HE2.out.symm, Own.base (by (repeat (first | (with_reducible exact hO) | (with_reducible apply Own.alloc) | (with_reducible apply Own.drew) | ((with_reducible apply Own.set_at); (focus (show _ ≤ _; omega))))))⟩
        · have HE2 := hid (show naL 0 v tick = naL (j + 1) (v.drop (j + 1)) (m - x.t) by rw [HM.out, HD.out, naL, if_neg hlt3])
          go_wp2_with ((go_at_call 68; apply own_at hO; (repeat (first | (with_reducible exact hO) | (with_reducible apply Own.alloc) | (with_reducible apply Own.drew) | ((with_reducible apply Own.set_at); (focus (show _ ≤ _; omega))))); have hG := hF; clear hF; clear hO; intro hO; refine own_call hO (fun hB => HV.out _ hB) ?_; clear hO; intro w1 hO; (try simp only [World.size_alloc1, World.size_drew, Nat.reduceAdd] at hO); (try simp only [upd, updI, List.map_cons, List.map_nil, eq_self, if_true, if_false, reduceIte, Nat.add_eq_left, Nat.left_eq_add, Nat.reduceEqDiff, List.set_cons_zero, List.set_cons_succ, hG] at hO); clear hG; have hF := hO; (try simp only [Own, Item.Holds, apartI, CellsAt, Nat.reduceAdd, Nat.zero_add, List.mem_cons, List.not_mem_nil, or_false, forall_eq_or_imp, forall_eq, ne_eq, false_imp_iff, implies_true, and_true] at hF)); have ⟨d0, d1, d2, d3, d4, d5⟩ := noteAt (HA.out.below hO.base) HX.out)
          go_roundw
          case rel => exact ⟨j + 1, m - x.t, by omega, by omega, by omega, by go_num, rfl, HE2.out, hO⟩
          case measure => simp [intOf]; omega
  · have HE := hid (show naZ v tick = -1 by simp [naZ, hv, h0])
    have HV := hid (voS_is hnl HA.out hn hv)
    have h0' : tick < 0 := by omega
    rw [hnl]
    clear hnl hv hne
    go_enter Tryd.func88, Tryd.ntmps88
    go_wp2
    go_loop [1, 5] (fun s t => s = .int .i64 tick ∧ t = .int .i64 0) (fun _ _ => 0)
    case atStart => exact ⟨rfl, rfl⟩
    case round =>
      obtain ⟨rfl, rfl⟩ := hrel
      go_wp2_with (go_at_call 68; apply own_at hO; (repeat (first | (with_reducible exact hO) | (with_reducible apply Own.alloc) | (with_reducible apply Own.drew) | ((with_reducible apply Own.set_at); (focus (show _ ≤ _; omega))))); have hG := hF; clear hF; clear hO; intro hO; refine own_call hO (fun hB => HV.out _ hB) ?_; clear hO; intro w1 hO; (try simp only [World.size_alloc1, World.size_drew, Nat.reduceAdd] at hO); (try simp only [upd, updI, List.map_cons, List.map_nil, eq_self, if_true, if_false, reduceIte, Nat.add_eq_left, Nat.left_eq_add, Nat.reduceEqDiff, List.set_cons_zero, List.set_cons_succ, hG] at hO); clear hG; have hF := hO; (try simp only [Own, Item.Holds, apartI, CellsAt, Nat.reduceAdd, Nat.zero_add, List.mem_cons, List.not_mem_nil, or_false, forall_eq_or_imp, forall_eq, ne_eq, false_imp_iff, implies_true, and_true] at hF))
      go_ret
      exact ⟨ret_int HE.out.symm, Own.base (by (repeat (first | (with_reducible exact hO) | (with_reducible apply Own.alloc) | (with_reducible apply Own.drew) | ((with_reducible apply Own.set_at); (focus (show _ ≤ _; omega))))))⟩

/- Chapter 5 in the model: joined ties. -/
open Go.RowKit

/-- What JoinTies hands back. -/
def jtL (v : List Nt) : List Nt := if voB v then joL v else []
theorem set5 {α : Type} {a b c d e f e' : α} {zs : List α} {i : Nat} {xs : List α} (h : xs.length = i) : (xs ++ a :: b :: c :: d :: e :: f :: zs).set (i + 4) e' = xs ++ (a :: b :: c :: d :: e' :: f :: zs) := by
  subst h
  simp [List.set_append]
theorem set5b {α : Type} {a b c d e f f' : α} {zs : List α} {i : Nat} {xs : List α} (h : xs.length = i) : (xs ++ a :: b :: c :: d :: e :: f :: zs).set (i + 5) f' = xs ++ (a :: b :: c :: d :: e :: f' :: zs) := by
  subst h
  simp [List.set_append]
/-- The ticks of the last note turn; its tie. -/
theorem vcC_setT {p : List Nt} {x : Nt} {m : Nat} {t : Int} (h : p.length = m) : (vcC (p ++ [x])).set (m * 6 + 4) (.int .i64 t) = vcC (p ++ [{ x with t := t }]) := by
  have hl := vcC_len p
  rw [vcC_append, vcC_append]
  exact set5 (by omega)
theorem vcC_setY {p : List Nt} {x : Nt} {m : Nat} {y : Bool} (h : p.length = m) : (vcC (p ++ [x])).set (m * 6 + 5) (.bool y) = vcC (p ++ [{ x with y := y }]) := by
  have hl := vcC_len p
  rw [vcC_append, vcC_append]
  exact set5b (by omega)
theorem last_at {p : List Nt} {x : Nt} {m : Nat} (h : p.length = m) : (p ++ [x])[m]? = some x := by
  subst h; simp
theorem drop_at {v : List Nt} {j : Nat} {x : Nt} (hx : v[j]? = some x) : v.drop j = x :: v.drop (j + 1) := by
  have hj := (List.getElem?_eq_some_iff.1 hx).1
  rw [List.drop_eq_getElem_cons hj]
  congr 1
  rw [List.getElem?_eq_getElem hj] at hx
  exact Option.some.inj hx