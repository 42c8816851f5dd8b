/- Chapter 14 in the program: the first rule that a tone breaks; the faults of a line; good lines. -/
import Derived.Test.YtieoobanpllmgaaDoorWalks14J
import Derived.Test.YtieoobanpllmgaaDoorRegionD
namespace Go.Proofs.YtieoobanpllmgaaDoor
set_option linter.unusedSimpArgs false
set_option linter.unusedVariables false
set_option maxRecDepth 8000
open Go.RowKit Go.Joins

/-- A function is stored. -/
theorem st_func (P : Program) (w : World) (a : Addr) (m : Mode) (fn : Fn) (x y : Array Value) : (store a (.func fn x y) m).run P w = stored P w a (.func fn x y) m := run_store P w a _ m rfl
attribute [local go_sem] st_func

/-- The rules for tones, for steps. -/
noncomputable def trL : List Value := [.int .i64 1, .func (.func 75) #[] #[], .int .i64 3, .func (.func 76) #[] #[], .int .i64 2, .func (.func 77) #[] #[], .int .i64 4, .func (.func 78) #[] #[]]
noncomputable def srL : List Value := [.int .i64 7, .func (.func 79) #[] #[], .int .i64 6, .func (.func 80) #[] #[], .int .i64 5, .func (.func 81) #[] #[]]
set_option maxHeartbeats 1000000 in
theorem trI_any (w : World) : Calls Tryd.prog 65 #[] w (RowOut 103 2 4 trL w) := by
  have hO := Own.start w
  have hF := True.intro
  go_enter Tryd.func65, Tryd.ntmps65
  go_wp2_with fail
  go_ret
  exact RowOut.mk (hO.allocRow (e := 103) (cur := trL.toArray) (k := 4) (cap := 4) 2 (by omega) (by unfold maxLen; omega) rfl)
set_option maxHeartbeats 1000000 in
theorem srI_any (w : World) : Calls Tryd.prog 66 #[] w (RowOut 103 2 3 srL w) := by
  have hO := Own.start w
  have hF := True.intro
  go_enter Tryd.func66, Tryd.ntmps66
  go_wp2_with fail
  go_ret
  exact RowOut.mk (hO.allocRow (e := 103) (cur := srL.toArray) (k := 3) (cap := 3) 2 (by omega) (by unfold maxLen; omega) rfl)

theorem one_by {f : Int} {y q : Pt} {k n : Nat} (h2 : 2 ≤ n) : oneZ f y q (k : Int) (n : Int) = if ikP f q = false then 1 else if inB (kyP q - kyP y) 0 16 = false then 3 else if dsB ((kyP q - kyP y) % 12) = true then 2 else if wrB k n ((kyP q - kyP y) % 12) = true then 4 else 0 := by
  unfold oneZ
  by_cases h0 : ikP f q = false
  · rw [if_pos h0, if_pos h0]
  rw [if_neg h0, if_neg h0]
  by_cases h1 : inB (kyP q - kyP y) 0 16 = false
  · rw [if_pos h1, if_pos (fun h => by rw [inB_iff.2 h] at h1; cases h1)]
  rw [if_neg h1]
  have h1' : 0 ≤ kyP q - kyP y ∧ kyP q - kyP y ≤ 16 := inB_iff.1 (by rwa [Bool.not_eq_false] at h1)
  rw [if_neg (fun h => h h1')]
  obtain ⟨m, hm⟩ : ∃ m, (kyP q - kyP y) % 12 = m := ⟨_, rfl⟩
  rw [hm]
  by_cases h3 : dsB m = true
  · rw [if_pos h3, if_pos h3]
  rw [if_neg h3, if_neg h3]
  unfold wrB
  by_cases hk : k = 0
  · subst hk
    simp only [if_true, reduceIte]
    by_cases a : m = 0
    · subst a; simp
    · by_cases b : m = 7
      · subst b
        rw [if_neg (by omega)]; rfl
      · rw [if_pos (by omega), if_pos (by simp [a, b])]
  · rw [if_neg hk]
    by_cases hn : k = n - 1
    · rw [if_pos hn]
      by_cases a : m = 0
      · subst a
        rw [if_neg (by omega)]; rfl
      · rw [if_pos (by omega), if_pos (by simp [a])]
    · rw [if_neg hn, if_neg (by omega)]; rfl
theorem two_by {x o y q : Pt} (hx : pvP x = true) (ho : pvP o = true) : twoZ x o y q = if kyP q - kyP o = 0 then 7 else if inB (kyP q - kyP o) (-9) 9 = false then 6 else if paB ((kyP q - kyP y) % 12) ((kyP o - kyP x) % 12) = true then 5 else 0 := by
  have b1 := ky14 hx
  have b2 := ky14 ho
  unfold twoZ
  by_cases h0 : kyP q - kyP o = 0
  · rw [if_pos h0, if_pos h0]
  rw [if_neg h0, if_neg h0]
  by_cases h1 : inB (kyP q - kyP o) (-9) 9 = false
  · rw [if_pos h1, if_pos]
    rw [← Bool.not_eq_true, inB_iff] at h1
    omega
  rw [if_neg h1]
  have h1' := inB_iff.1 (show inB (kyP q - kyP o) (-9) 9 = true by rwa [Bool.not_eq_false] at h1)
  rw [if_neg (by omega), Int.tmod_eq_emod_of_nonneg (show 0 ≤ kyP o - kyP x + 120 by omega)]
  have e : ((kyP o - kyP x) - (kyP q - kyP y)).tmod 12 = 0 ↔ (kyP q - kyP y) % 12 = (kyP o - kyP x) % 12 := by
    have h3 := Int.mul_tdiv_add_tmod ((kyP o - kyP x) - (kyP q - kyP y)) 12
    have h4 := Int.lt_tmod_of_pos ((kyP o - kyP x) - (kyP q - kyP y)) (show (0 : Int) < 12 by omega)
    have h5 := Int.tmod_lt_of_pos ((kyP o - kyP x) - (kyP q - kyP y)) (show (0 : Int) < 12 by omega)
    omega
  have e2 : (kyP o - kyP x + 120) % 12 = (kyP o - kyP x) % 12 := by omega
  rw [e2]
  obtain ⟨m, hm⟩ : ∃ m, (kyP q - kyP y) % 12 = m := ⟨_, rfl⟩
  obtain ⟨m', hm'⟩ : ∃ m, (kyP o - kyP x) % 12 = m := ⟨_, rfl⟩
  rw [hm, hm'] at e
  rw [hm, hm']
  unfold paB
  by_cases h3 : m = m' ∧ (m' = 0 ∨ m' = 7)
  · rw [if_pos ⟨e.2 h3.1, h3.2⟩, if_pos]
    obtain ⟨rfl, h | h⟩ := h3 <;> subst h <;> rfl
  · rw [if_neg (fun h => h3 ⟨e.1 h.1, h.2⟩), if_neg]
    intro h
    simp at h
    exact h3 (by omega)

set_option maxRecDepth 20000 in
set_option maxHeartbeats 8000000 in
theorem ffT_is {w : World} {f : Int} {va vb : Value} {c l : List Pt} {n k : Nat} {y q : Pt} {z : Int} (h : CpAt w f va vb c l n) (hy : c[k]? = some y) (hq : l[k]? = some q) (hz : oneZ f y q (k : Int) (n : Int) = z) (qr cr : Nat) (W : World) (hW : Below w.heap.size w W) (hr : SlAt W (.slice (some ⟨qr, 0, none⟩) 4 cr) 4 2 trL) :
    Calls Tryd.prog 64 #[.agg #[.int .i64 f, va, vb], .slice (some ⟨qr, 0, none⟩) 4 cr, .int .i64 k] W fun e w' => e = .returned (.int .i64 z) ∧ Below W.heap.size W w' := by
  replace h := h.below hW
  clear hW w
  have hO := Own.start W
  have hF := True.intro
  rw [one_by h.n2] at hz
  obtain ⟨b1, hb1⟩ : ∃ b, ikP f q = b := ⟨_, rfl⟩
  obtain ⟨b2, hb2⟩ : ∃ b, inB (kyP q - kyP y) 0 16 = b := ⟨_, rfl⟩
  obtain ⟨b3, hb3⟩ : ∃ b, dsB ((kyP q - kyP y) % 12) = b := ⟨_, rfl⟩
  obtain ⟨b4, hb4⟩ : ∃ b, wrB k n ((kyP q - kyP y) % 12) = b := ⟨_, rfl⟩
  have H1 := hid (fun V hV => okI_is h hq hb1 V hV)
  have H2 := hid (fun V hV => tfI_is h hy hq hb2 V hV)
  have H3 := hid (fun V hV => dsI_is h hy hq hb3 V hV)
  have H4 := hid (fun V hV => weI_is h hy hq hb4 V hV)
  rw [hb1, hb2, hb3, hb4] at hz
  have HZ := hid hz
  have HR := hid hr
  obtain ⟨p1, o1, c1, p2, o2, c2, rfl, rfl, g1, g2⟩ := h.open
  have hrl : cr ≤ 9223372036854775807 ∧ 4 ≤ cr := by
    rcases hr.2 with ⟨h1, _⟩ | ⟨b, off, cap, e, h1, h2, h3, h4⟩
    · cases h1
    · cases e
      unfold maxLen at h2
      omega
  clear h hy hq hb1 hb2 hb3 hb4 hz hr g1 g2
  go_enter Tryd.func64, Tryd.ntmps64
  go_wp2_with fail
  (apply own_code hO; (repeat (first | (with_reducible exact hO) | (with_reducible apply Own.alloc) | (with_reducible apply Own.drew) | ((with_reducible apply Own.set_at); (focus (show _ ≤ _; omega))))); have hG := hF; clear hF; clear hO; intro hO; (try simp only [World.size_alloc1, World.size_drew, Nat.reduceAdd] at hO); (try simp only [upd, updI, List.map_cons, List.map_nil, eq_self, if_true, if_false, reduceIte, Nat.add_eq_left, Nat.left_eq_add, Nat.reduceEqDiff, List.set_cons_zero, List.set_cons_succ, hG] at hO); clear hG; have hF := hO; (try simp only [Own, Item.Holds, apartI, CellsAt, Nat.reduceAdd, Nat.zero_add, List.mem_cons, List.not_mem_nil, or_false, forall_eq_or_imp, forall_eq, ne_eq, false_imp_iff, implies_true, and_true] at hF))
  go_loopw [11] (fun t wr => ∃ j : Int, 0 ≤ j ∧ j ≤ 4 ∧ t = .int .i64 j ∧ Hid ((1 ≤ j → b1 = true) ∧ (2 ≤ j → b2 = true) ∧ (3 ≤ j → b3 = false) ∧ (4 ≤ j → b4 = false)) ∧ Own W.heap.size (Below W.heap.size W) wr [.blk W.heap.size [.int .i64 f, .slice (some ⟨p1, o1, none⟩) n c1, .slice (some ⟨p2, o2, none⟩) n c2]]) (fun t _ => 4 - (intOf t).toNat)
  case atStart => exact ⟨0, by omega, by omega, rfl, ⟨by omega, by omega, by omega, by omega⟩, hO⟩
  case round =>
    clear hO hF
    obtain ⟨j, hj0, hj4, rfl, hp, hO⟩ := hrel
    have hF := hO; (try simp only [Own, Item.Holds, apartI, CellsAt, Nat.reduceAdd, Nat.zero_add, List.mem_cons, List.not_mem_nil, or_false, forall_eq_or_imp, forall_eq, ne_eq, false_imp_iff, implies_true, and_true] at hF)
    have hr := HR.out.below hO.base
    rcases (show j = 0 ∨ j = 1 ∨ j = 2 ∨ j = 3 ∨ j = 4 by omega) with rfl | rfl | rfl | rfl | rfl
    · have r0 : _ = some (Value.int .i64 1) := hr.cellAt (j := 0) rfl
      have r1 : _ = some (Value.func _ #[] #[]) := hr.cellAt (j := 1) rfl
      rw [Nat.zero_add] at r0 r1
      clear hr hj0 hj4 hp
      cases b1
      · have HE := hid (show z = 1 by rw [← HZ.out]; rfl)
        go_wp2_with (go_at_call 75; apply own_at hO; (repeat (first | (with_reducible exact hO) | (with_reducible apply Own.alloc) | (with_reducible apply Own.drew) | ((with_reducible apply Own.set_at); (focus (show _ ≤ _; omega))))); have hG := hF; clear hF; clear hO; intro hO; refine own_call hO (fun hB => H1.out _ hB) ?_; clear hO; intro w1 hO; (try simp only [World.size_alloc1, World.size_drew, Nat.reduceAdd] at hO); (try simp only [upd, updI, List.map_cons, List.map_nil, eq_self, if_true, if_false, reduceIte, Nat.add_eq_left, Nat.left_eq_add, Nat.reduceEqDiff, List.set_cons_zero, List.set_cons_succ, hG] at hO); clear hG; have hF := hO; (try simp only [Own, Item.Holds, apartI, CellsAt, Nat.reduceAdd, Nat.zero_add, List.mem_cons, List.not_mem_nil, or_false, forall_eq_or_imp, forall_eq, ne_eq, false_imp_iff, implies_true, and_true] at hF))
        go_ret
        exact ⟨ret_int HE.out.symm, Own.base (by first | exact hO | (repeat (first | (with_reducible exact hO) | (with_reducible apply Own.alloc) | (with_reducible apply Own.drew) | ((with_reducible apply Own.set_at); (focus (show _ ≤ _; omega))))))⟩
      · go_wp2_with (go_at_call 75; apply own_at hO; (repeat (first | (with_reducible exact hO) | (with_reducible apply Own.alloc) | (with_reducible apply Own.drew) | ((with_reducible apply Own.set_at); (focus (show _ ≤ _; omega))))); have hG := hF; clear hF; clear hO; intro hO; refine own_call hO (fun hB => H1.out _ hB) ?_; clear hO; intro w1 hO; (try simp only [World.size_alloc1, World.size_drew, Nat.reduceAdd] at hO); (try simp only [upd, updI, List.map_cons, List.map_nil, eq_self, if_true, if_false, reduceIte, Nat.add_eq_left, Nat.left_eq_add, Nat.reduceEqDiff, List.set_cons_zero, List.set_cons_succ, hG] at hO); clear hG; have hF := hO; (try simp only [Own, Item.Holds, apartI, CellsAt, Nat.reduceAdd, Nat.zero_add, List.mem_cons, List.not_mem_nil, or_false, forall_eq_or_imp, forall_eq, ne_eq, false_imp_iff, implies_true, and_true] at hF))
        go_roundw
        case rel => exact ⟨1, by omega, by omega, by go_num, ⟨fun _ => by trivial, by omega, by omega, by omega⟩, Own.drop hO⟩
        case measure => simp [intOf]
    · have r0 : _ = some (Value.int .i64 3) := hr.cellAt (j := 2) rfl
      have r1 : _ = some (Value.func _ #[] #[]) := hr.cellAt (j := 3) rfl
      rw [Nat.zero_add] at r0 r1
      have e1 := hp.out.1 (by omega)
      subst e1
      clear hr hj0 hj4 hp
      cases b2
      · have HE := hid (show z = 3 by rw [← HZ.out]; rfl)
        go_wp2_with (go_at_call 76; apply own_at hO; (repeat (first | (with_reducible exact hO) | (with_reducible apply Own.alloc) | (with_reducible apply Own.drew) | ((with_reducible apply Own.set_at); (focus (show _ ≤ _; omega))))); have hG := hF; clear hF; clear hO; intro hO; refine own_call hO (fun hB => H2.out _ hB) ?_; clear hO; intro w1 hO; (try simp only [World.size_alloc1, World.size_drew, Nat.reduceAdd] at hO); (try simp only [upd, updI, List.map_cons, List.map_nil, eq_self, if_true, if_false, reduceIte, Nat.add_eq_left, Nat.left_eq_add, Nat.reduceEqDiff, List.set_cons_zero, List.set_cons_succ, hG] at hO); clear hG; have hF := hO; (try simp only [Own, Item.Holds, apartI, CellsAt, Nat.reduceAdd, Nat.zero_add, List.mem_cons, List.not_mem_nil, or_false, forall_eq_or_imp, forall_eq, ne_eq, false_imp_iff, implies_true, and_true] at hF))
        go_ret
        exact ⟨ret_int HE.out.symm, Own.base (by first | exact hO | (repeat (first | (with_reducible exact hO) | (with_reducible apply Own.alloc) | (with_reducible apply Own.drew) | ((with_reducible apply Own.set_at); (focus (show _ ≤ _; omega))))))⟩
      · go_wp2_with (go_at_call 76; apply own_at hO; (repeat (first | (with_reducible exact hO) | (with_reducible apply Own.alloc) | (with_reducible apply Own.drew) | ((with_reducible apply Own.set_at); (focus (show _ ≤ _; omega))))); have hG := hF; clear hF; clear hO; intro hO; refine own_call hO (fun hB => H2.out _ hB) ?_; clear hO; intro w1 hO; (try simp only [World.size_alloc1, World.size_drew, Nat.reduceAdd] at hO); (try simp only [upd, updI, List.map_cons, List.map_nil, eq_self, if_true, if_false, reduceIte, Nat.add_eq_left, Nat.left_eq_add, Nat.reduceEqDiff, List.set_cons_zero, List.set_cons_succ, hG] at hO); clear hG; have hF := hO; (try simp only [Own, Item.Holds, apartI, CellsAt, Nat.reduceAdd, Nat.zero_add, List.mem_cons, List.not_mem_nil, or_false, forall_eq_or_imp, forall_eq, ne_eq, false_imp_iff, implies_true, and_true] at hF))
        go_roundw
        case rel => exact ⟨2, by omega, by omega, by go_num, ⟨fun _ => by trivial, fun _ => by trivial, by omega, by omega⟩, Own.drop hO⟩
        case measure => simp [intOf]
    · have r0 : _ = some (Value.int .i64 2) := hr.cellAt (j := 4) rfl
      have r1 : _ = some (Value.func _ #[] #[]) := hr.cellAt (j := 5) rfl
      rw [Nat.zero_add] at r0 r1
      have e1 := hp.out.1 (by omega)
      have e2 := hp.out.2.1 (by omega)
      subst e1 e2
      clear hr hj0 hj4 hp
      cases b3
      · go_wp2_with (go_at_call 77; apply own_at hO; (repeat (first | (with_reducible exact hO) | (with_reducible apply Own.alloc) | (with_reducible apply Own.drew) | ((with_reducible apply Own.set_at); (focus (show _ ≤ _; omega))))); have hG := hF; clear hF; clear hO; intro hO; refine own_call hO (fun hB => H3.out _ hB) ?_; clear hO; intro w1 hO; (try simp only [World.size_alloc1, World.size_drew, Nat.reduceAdd] at hO); (try simp only [upd, updI, List.map_cons, List.map_nil, eq_self, if_true, if_false, reduceIte, Nat.add_eq_left, Nat.left_eq_add, Nat.reduceEqDiff, List.set_cons_zero, List.set_cons_succ, hG] at hO); clear hG; have hF := hO; (try simp only [Own, Item.Holds, apartI, CellsAt, Nat.reduceAdd, Nat.zero_add, List.mem_cons, List.not_mem_nil, or_false, forall_eq_or_imp, forall_eq, ne_eq, false_imp_iff, implies_true, and_true] at hF))
        go_roundw
        case rel => exact ⟨3, by omega, by omega, by go_num, ⟨fun _ => by trivial, fun _ => by trivial, fun _ => by trivial, by omega⟩, Own.drop hO⟩
        case measure => simp [intOf]
      · have HE := hid (show z = 2 by rw [← HZ.out]; rfl)
        go_wp2_with (go_at_call 77; apply own_at hO; (repeat (first | (with_reducible exact hO) | (with_reducible apply Own.alloc) | (with_reducible apply Own.drew) | ((with_reducible apply Own.set_at); (focus (show _ ≤ _; omega))))); have hG := hF; clear hF; clear hO; intro hO; refine own_call hO (fun hB => H3.out _ hB) ?_; clear hO; intro w1 hO; (try simp only [World.size_alloc1, World.size_drew, Nat.reduceAdd] at hO); (try simp only [upd, updI, List.map_cons, List.map_nil, eq_self, if_true, if_false, reduceIte, Nat.add_eq_left, Nat.left_eq_add, Nat.reduceEqDiff, List.set_cons_zero, List.set_cons_succ, hG] at hO); clear hG; have hF := hO; (try simp only [Own, Item.Holds, apartI, CellsAt, Nat.reduceAdd, Nat.zero_add, List.mem_cons, List.not_mem_nil, or_false, forall_eq_or_imp, forall_eq, ne_eq, false_imp_iff, implies_true, and_true] at hF))
        go_ret
        exact ⟨ret_int HE.out.symm, Own.base (by first | exact hO | (repeat (first | (with_reducible exact hO) | (with_reducible apply Own.alloc) | (with_reducible apply Own.drew) | ((with_reducible apply Own.set_at); (focus (show _ ≤ _; omega))))))⟩
    · have r0 : _ = some (Value.int .i64 4) := hr.cellAt (j := 6) rfl
      have r1 : _ = some (Value.func _ #[] #[]) := hr.cellAt (j := 7) rfl
      rw [Nat.zero_add] at r0 r1
      have e1 := hp.out.1 (by omega)
      have e2 := hp.out.2.1 (by omega)
      have e3 := hp.out.2.2.1 (by omega)
      subst e1 e2 e3
      clear hr hj0 hj4 hp
      cases b4
      · go_wp2_with (go_at_call 78; apply own_at hO; (repeat (first | (with_reducible exact hO) | (with_reducible apply Own.alloc) | (with_reducible apply Own.drew) | ((with_reducible apply Own.set_at); (focus (show _ ≤ _; omega))))); have hG := hF; clear hF; clear hO; intro hO; refine own_call hO (fun hB => H4.out _ hB) ?_; clear hO; intro w1 hO; (try simp only [World.size_alloc1, World.size_drew, Nat.reduceAdd] at hO); (try simp only [upd, updI, List.map_cons, List.map_nil, eq_self, if_true, if_false, reduceIte, Nat.add_eq_left, Nat.left_eq_add, Nat.reduceEqDiff, List.set_cons_zero, List.set_cons_succ, hG] at hO); clear hG; have hF := hO; (try simp only [Own, Item.Holds, apartI, CellsAt, Nat.reduceAdd, Nat.zero_add, List.mem_cons, List.not_mem_nil, or_false, forall_eq_or_imp, forall_eq, ne_eq, false_imp_iff, implies_true, and_true] at hF))
        go_roundw
        case rel => exact ⟨4, by omega, by omega, by go_num, ⟨fun _ => by trivial, fun _ => by trivial, fun _ => by trivial, fun _ => by trivial⟩, Own.drop hO⟩
        case measure => simp [intOf]
      · have HE := hid (show z = 4 by rw [← HZ.out]; rfl)
        go_wp2_with (go_at_call 78; apply own_at hO; (repeat (first | (with_reducible exact hO) | (with_reducible apply Own.alloc) | (with_reducible apply Own.drew) | ((with_reducible apply Own.set_at); (focus (show _ ≤ _; omega))))); have hG := hF; clear hF; clear hO; intro hO; refine own_call hO (fun hB => H4.out _ hB) ?_; clear hO; intro w1 hO; (try simp only [World.size_alloc1, World.size_drew, Nat.reduceAdd] at hO); (try simp only [upd, updI, List.map_cons, List.map_nil, eq_self, if_true, if_false, reduceIte, Nat.add_eq_left, Nat.left_eq_add, Nat.reduceEqDiff, List.set_cons_zero, List.set_cons_succ, hG] at hO); clear hG; have hF := hO; (try simp only [Own, Item.Holds, apartI, CellsAt, Nat.reduceAdd, Nat.zero_add, List.mem_cons, List.not_mem_nil, or_false, forall_eq_or_imp, forall_eq, ne_eq, false_imp_iff, implies_true, and_true] at hF))
        go_ret
        exact ⟨ret_int HE.out.symm, Own.base (by first | exact hO | (repeat (first | (with_reducible exact hO) | (with_reducible apply Own.alloc) | (with_reducible apply Own.drew) | ((with_reducible apply Own.set_at); (focus (show _ ≤ _; omega))))))⟩
    · have e1 := hp.out.1 (by omega)
      have e2 := hp.out.2.1 (by omega)
      have e3 := hp.out.2.2.1 (by omega)
      have e4 := hp.out.2.2.2 (by omega)
      subst e1 e2 e3 e4
      have HE := hid (show z = 0 by rw [← HZ.out]; rfl)
      clear hr hj0 hj4 hp
      go_wp2_with fail
      go_ret
      exact ⟨ret_int HE.out.symm, Own.base (by first | exact hO | (repeat (first | (with_reducible exact hO) | (with_reducible apply Own.alloc) | (with_reducible apply Own.drew) | ((with_reducible apply Own.set_at); (focus (show _ ≤ _; omega))))))⟩

set_option maxRecDepth 20000 in
set_option maxHeartbeats 8000000 in
theorem ffS_is {w : World} {f : Int} {va vb : Value} {c l : List Pt} {n p : Nat} {x o y q : Pt} {z : Int} (h : CpAt w f va vb c l n) (hx : c[p]? = some x) (ho : l[p]? = some o) (hy : c[p + 1]? = some y) (hq : l[p + 1]? = some q) (hz : twoZ x o y q = z) (qr cr : Nat) (W : World) (hW : Below w.heap.size w W) (hr : SlAt W (.slice (some ⟨qr, 0, none⟩) 3 cr) 3 2 srL) :
    Calls Tryd.prog 64 #[.agg #[.int .i64 f, va, vb], .slice (some ⟨qr, 0, none⟩) 3 cr, .int .i64 ((p : Int) + 1)] W fun e w' => e = .returned (.int .i64 z) ∧ Below W.heap.size W w' := by
  replace h := h.below hW
  clear hW w
  have hO := Own.start W
  have hF := True.intro
  rw [two_by (h.pc x (List.mem_of_getElem? hx)) (h.pl o (List.mem_of_getElem? ho))] at hz
  obtain ⟨d, hd⟩ : ∃ b, kyP q - kyP o = b := ⟨_, rfl⟩
  obtain ⟨b2, hb2⟩ : ∃ b, inB d (-9) 9 = b := ⟨_, rfl⟩
  obtain ⟨b3, hb3⟩ : ∃ b, paB ((kyP q - kyP y) % 12) ((kyP o - kyP x) % 12) = b := ⟨_, rfl⟩
  have H1' := hid (fun V hV => rpI_is h ho hq hd V hV)
  have H2 := hid (fun V hV => leI_is h ho hq hd hb2 V hV)
  have H3 := hid (fun V hV => paI_is h hx ho hy hq hb3 V hV)
  rw [hd, hb2, hb3] at hz
  obtain ⟨b1, hb1⟩ : ∃ b, (d == 0) = b := ⟨_, rfl⟩
  have H1 := hid (show ∀ V, Below W.heap.size W V → Calls Tryd.prog 79 #[.agg #[.int .i64 f, va, vb], .int .i64 ((p : Int) + 1)] V fun e w' => e = .returned (.bool b1) ∧ Below V.heap.size V w' from fun V hV => by rw [← hb1]; exact H1'.out V hV)
  have HZ := hid (show (if b1 = true then 7 else if b2 = false then 6 else if b3 = true then 5 else 0) = z by
    rw [← hz, ← hb1]
    by_cases h0 : d = 0
    · subst h0; rfl
    · rw [if_neg h0, if_neg (by simp [h0])])
  have HR := hid hr
  obtain ⟨p1, o1, c1, p2, o2, c2, rfl, rfl, g1, g2⟩ := h.open
  have hrl : cr ≤ 9223372036854775807 ∧ 3 ≤ cr := by
    rcases hr.2 with ⟨h1, _⟩ | ⟨b, off, cap, e, h1, h2, h3, h4⟩
    · cases h1
    · cases e
      unfold maxLen at h2
      omega
  clear h hx ho hy hq hd hb1 hb2 hb3 hz hr g1 g2 H1'
  go_enter Tryd.func64, Tryd.ntmps64
  go_wp2_with fail
  (apply own_code hO; (repeat (first | (with_reducible exact hO) | (with_reducible apply Own.alloc) | (with_reducible apply Own.drew) | ((with_reducible apply Own.set_at); (focus (show _ ≤ _; omega))))); have hG := hF; clear hF; clear hO; intro hO; (try simp only [World.size_alloc1, World.size_drew, Nat.reduceAdd] at hO); (try simp only [upd, updI, List.map_cons, List.map_nil, eq_self, if_true, if_false, reduceIte, Nat.add_eq_left, Nat.left_eq_add, Nat.reduceEqDiff, List.set_cons_zero, List.set_cons_succ, hG] at hO); clear hG; have hF := hO; (try simp only [Own, Item.Holds, apartI, CellsAt, Nat.reduceAdd, Nat.zero_add, List.mem_cons, List.not_mem_nil, or_false, forall_eq_or_imp, forall_eq, ne_eq, false_imp_iff, implies_true, and_true] at hF))
  go_loopw [11] (fun t wr => ∃ j : Int, 0 ≤ j ∧ j ≤ 3 ∧ t = .int .i64 j ∧ Hid ((1 ≤ j → b1 = false) ∧ (2 ≤ j → b2 = true) ∧ (3 ≤ j → b3 = false)) ∧ Own W.heap.size (Below W.heap.size W) wr [.blk W.heap.size [.int .i64 f, .slice (some ⟨p1, o1, none⟩) n c1, .slice (some ⟨p2, o2, none⟩) n c2]]) (fun t _ => 3 - (intOf t).toNat)
  case atStart => exact ⟨0, by omega, by omega, rfl, ⟨by omega, by omega, by omega⟩, hO⟩
  case round =>
    clear hO hF
    obtain ⟨j, hj0, hj4, rfl, hp, hO⟩ := hrel
    have hF := hO; (try simp only [Own, Item.Holds, apartI, CellsAt, Nat.reduceAdd, Nat.zero_add, List.mem_cons, List.not_mem_nil, or_false, forall_eq_or_imp, forall_eq, ne_eq, false_imp_iff, implies_true, and_true] at hF)
    have hr := HR.out.below hO.base
    rcases (show j = 0 ∨ j = 1 ∨ j = 2 ∨ j = 3 by omega) with rfl | rfl | rfl | rfl
    · have r0 : _ = some (Value.int .i64 7) := hr.cellAt (j := 0) rfl
      have r1 : _ = some (Value.func _ #[] #[]) := hr.cellAt (j := 1) rfl
      rw [Nat.zero_add] at r0 r1
      clear hr hj0 hj4 hp
      cases b1
      · go_wp2_with (go_at_call 79; apply own_at hO; (repeat (first | (with_reducible exact hO) | (with_reducible apply Own.alloc) | (with_reducible apply Own.drew) | ((with_reducible apply Own.set_at); (focus (show _ ≤ _; omega))))); have hG := hF; clear hF; clear hO; intro hO; refine own_call hO (fun hB => H1.out _ hB) ?_; clear hO; intro w1 hO; (try simp only [World.size_alloc1, World.size_drew, Nat.reduceAdd] at hO); (try simp only [upd, updI, List.map_cons, List.map_nil, eq_self, if_true, if_false, reduceIte, Nat.add_eq_left, Nat.left_eq_add, Nat.reduceEqDiff, List.set_cons_zero, List.set_cons_succ, hG] at hO); clear hG; have hF := hO; (try simp only [Own, Item.Holds, apartI, CellsAt, Nat.reduceAdd, Nat.zero_add, List.mem_cons, List.not_mem_nil, or_false, forall_eq_or_imp, forall_eq, ne_eq, false_imp_iff, implies_true, and_true] at hF))
        go_roundw
        case rel => exact ⟨1, by omega, by omega, by go_num, ⟨fun _ => by trivial, by omega, by omega⟩, Own.drop hO⟩
        case measure => simp [intOf]
      · have HE := hid (show z = 7 by rw [← HZ.out]; rfl)
        go_wp2_with (go_at_call 79; apply own_at hO; (repeat (first | (with_reducible exact hO) | (with_reducible apply Own.alloc) | (with_reducible apply Own.drew) | ((with_reducible apply Own.set_at); (focus (show _ ≤ _; omega))))); have hG := hF; clear hF; clear hO; intro hO; refine own_call hO (fun hB => H1.out _ hB) ?_; clear hO; intro w1 hO; (try simp only [World.size_alloc1, World.size_drew, Nat.reduceAdd] at hO); (try simp only [upd, updI, List.map_cons, List.map_nil, eq_self, if_true, if_false, reduceIte, Nat.add_eq_left, Nat.left_eq_add, Nat.reduceEqDiff, List.set_cons_zero, List.set_cons_succ, hG] at hO); clear hG; have hF := hO; (try simp only [Own, Item.Holds, apartI, CellsAt, Nat.reduceAdd, Nat.zero_add, List.mem_cons, List.not_mem_nil, or_false, forall_eq_or_imp, forall_eq, ne_eq, false_imp_iff, implies_true, and_true] at hF))
        go_ret
        exact ⟨ret_int HE.out.symm, Own.base (by first | exact hO | (repeat (first | (with_reducible exact hO) | (with_reducible apply Own.alloc) | (with_reducible apply Own.drew) | ((with_reducible apply Own.set_at); (focus (show _ ≤ _; omega))))))⟩
    · have r0 : _ = some (Value.int .i64 6) := hr.cellAt (j := 2) rfl
      have r1 : _ = some (Value.func _ #[] #[]) := hr.cellAt (j := 3) rfl
      rw [Nat.zero_add] at r0 r1
      have e1 := hp.out.1 (by omega)
      subst e1
      clear hr hj0 hj4 hp
      cases b2
      · have HE := hid (show z = 6 by rw [← HZ.out]; rfl)
        go_wp2_with (go_at_call 80; apply own_at hO; (repeat (first | (with_reducible exact hO) | (with_reducible apply Own.alloc) | (with_reducible apply Own.drew) | ((with_reducible apply Own.set_at); (focus (show _ ≤ _; omega))))); have hG := hF; clear hF; clear hO; intro hO; refine own_call hO (fun hB => H2.out _ hB) ?_; clear hO; intro w1 hO; (try simp only [World.size_alloc1, World.size_drew, Nat.reduceAdd] at hO); (try simp only [upd, updI, List.map_cons, List.map_nil, eq_self, if_true, if_false, reduceIte, Nat.add_eq_left, Nat.left_eq_add, Nat.reduceEqDiff, List.set_cons_zero, List.set_cons_succ, hG] at hO); clear hG; have hF := hO; (try simp only [Own, Item.Holds, apartI, CellsAt, Nat.reduceAdd, Nat.zero_add, List.mem_cons, List.not_mem_nil, or_false, forall_eq_or_imp, forall_eq, ne_eq, false_imp_iff, implies_true, and_true] at hF))
        go_ret
        exact ⟨ret_int HE.out.symm, Own.base (by first | exact hO | (repeat (first | (with_reducible exact hO) | (with_reducible apply Own.alloc) | (with_reducible apply Own.drew) | ((with_reducible apply Own.set_at); (focus (show _ ≤ _; omega))))))⟩
      · go_wp2_with (go_at_call 80; apply own_at hO; (repeat (first | (with_reducible exact hO) | (with_reducible apply Own.alloc) | (with_reducible apply Own.drew) | ((with_reducible apply Own.set_at); (focus (show _ ≤ _; omega))))); have hG := hF; clear hF; clear hO; intro hO; refine own_call hO (fun hB => H2.out _ hB) ?_; clear hO; intro w1 hO; (try simp only [World.size_alloc1, World.size_drew, Nat.reduceAdd] at hO); (try simp only [upd, updI, List.map_cons, List.map_nil, eq_self, if_true, if_false, reduceIte, Nat.add_eq_left, Nat.left_eq_add, Nat.reduceEqDiff, List.set_cons_zero, List.set_cons_succ, hG] at hO); clear hG; have hF := hO; (try simp only [Own, Item.Holds, apartI, CellsAt, Nat.reduceAdd, Nat.zero_add, List.mem_cons, List.not_mem_nil, or_false, forall_eq_or_imp, forall_eq, ne_eq, false_imp_iff, implies_true, and_true] at hF))
        go_roundw
        case rel => exact ⟨2, by omega, by omega, by go_num, ⟨fun _ => by trivial, fun _ => by trivial, by omega⟩, Own.drop hO⟩
        case measure => simp [intOf]
    · have r0 : _ = some (Value.int .i64 5) := hr.cellAt (j := 4) rfl
      have r1 : _ = some (Value.func _ #[] #[]) := hr.cellAt (j := 5) rfl
      rw [Nat.zero_add] at r0 r1
      have e1 := hp.out.1 (by omega)
      have e2 := hp.out.2.1 (by omega)
      subst e1 e2
      clear hr hj0 hj4 hp
      cases b3
      · go_wp2_with (go_at_call 81; apply own_at hO; (repeat (first | (with_reducible exact hO) | (with_reducible apply Own.alloc) | (with_reducible apply Own.drew) | ((with_reducible apply Own.set_at); (focus (show _ ≤ _; omega))))); have hG := hF; clear hF; clear hO; intro hO; refine own_call hO (fun hB => H3.out _ hB) ?_; clear hO; intro w1 hO; (try simp only [World.size_alloc1, World.size_drew, Nat.reduceAdd] at hO); (try simp only [upd, updI, List.map_cons, List.map_nil, eq_self, if_true, if_false, reduceIte, Nat.add_eq_left, Nat.left_eq_add, Nat.reduceEqDiff, List.set_cons_zero, List.set_cons_succ, hG] at hO); clear hG; have hF := hO; (try simp only [Own, Item.Holds, apartI, CellsAt, Nat.reduceAdd, Nat.zero_add, List.mem_cons, List.not_mem_nil, or_false, forall_eq_or_imp, forall_eq, ne_eq, false_imp_iff, implies_true, and_true] at hF))
        go_roundw
        case rel => exact ⟨3, by omega, by omega, by go_num, ⟨fun _ => by trivial, fun _ => by trivial, fun _ => by trivial⟩, Own.drop hO⟩
        case measure => simp [intOf]
      · have HE := hid (show z = 5 by rw [← HZ.out]; rfl)
        go_wp2_with (go_at_call 81; apply own_at hO; (repeat (first | (with_reducible exact hO) | (with_reducible apply Own.alloc) | (with_reducible apply Own.drew) | ((with_reducible apply Own.set_at); (focus (show _ ≤ _; omega))))); have hG := hF; clear hF; clear hO; intro hO; refine own_call hO (fun hB => H3.out _ hB) ?_; clear hO; intro w1 hO; (try simp only [World.size_alloc1, World.size_drew, Nat.reduceAdd] at hO); (try simp only [upd, updI, List.map_cons, List.map_nil, eq_self, if_true, if_false, reduceIte, Nat.add_eq_left, Nat.left_eq_add, Nat.reduceEqDiff, List.set_cons_zero, List.set_cons_succ, hG] at hO); clear hG; have hF := hO; (try simp only [Own, Item.Holds, apartI, CellsAt, Nat.reduceAdd, Nat.zero_add, List.mem_cons, List.not_mem_nil, or_false, forall_eq_or_imp, forall_eq, ne_eq, false_imp_iff, implies_true, and_true] at hF))
        go_ret
        exact ⟨ret_int HE.out.symm, Own.base (by first | exact hO | (repeat (first | (with_reducible exact hO) | (with_reducible apply Own.alloc) | (with_reducible apply Own.drew) | ((with_reducible apply Own.set_at); (focus (show _ ≤ _; omega))))))⟩
    · have e1 := hp.out.1 (by omega)
      have e2 := hp.out.2.1 (by omega)
      have e3 := hp.out.2.2 (by omega)
      subst e1 e2 e3
      have HE := hid (show z = 0 by rw [← HZ.out]; rfl)
      clear hr hj0 hj4 hp
      go_wp2_with fail
      go_ret
      exact ⟨ret_int HE.out.symm, Own.base (by first | exact hO | (repeat (first | (with_reducible exact hO) | (with_reducible apply Own.alloc) | (with_reducible apply Own.drew) | ((with_reducible apply Own.set_at); (focus (show _ ≤ _; omega))))))⟩
end Go.Proofs.YtieoobanpllmgaaDoor
