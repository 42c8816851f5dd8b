/- The functions that draw for a law of chapter 10: a pitch and a kind; pitches, often of a chord. -/
import Derived.Test.YtikkcehjfcfcdaaDoorOwnPick
import Derived.Test.YtikkcehjfcfcdaaDoorWalks10T
import Derived.Test.YtikkcehjfcfcdaaDoorWalksDrawP
namespace Go.Proofs.YtikkcehjfcfcdaaDoor
set_option linter.unusedSimpArgs false
set_option linter.unusedVariables false
set_option maxRecDepth 8000
open Go.RowKit

def ptOk (x : Pt) : Prop := (-1 ≤ x.s ∧ x.s ≤ 7) ∧ (-3 ≤ x.a ∧ x.a ≤ 3) ∧ (-1 ≤ x.o ∧ x.o ≤ 9)
theorem ptOk_pv {x : Pt} (h : pvP x = true) : ptOk x := by
  have := pvP_iff.1 h
  unfold ptOk; omega
theorem chL_ok (x : Pt) (k : Int) : ∀ y ∈ chL x k, ptOk y := fun y hy => ptOk_pv (List.all_eq_true.1 chL_all y hy)
theorem ok_snoc {v : List Pt} {x : Pt} (hv : ∀ z ∈ v, ptOk z) (hx : ptOk x) : ∀ z ∈ v ++ [x], ptOk z := fun z hz => by
  rcases List.mem_append.1 hz with h | h
  · exact hv z h
  · simp at h; subst h; exact hx
theorem pcC_drop (v : List Pt) (m : Nat) (hm : m ≤ v.length) : ∀ {j : Nat} {u : Value}, (pcC (v.drop m))[j]? = some u → (pcC v)[m * 3 + j]? = some u := by
  intro j u h
  have e : pcC v = pcC (v.take m) ++ pcC (v.drop m) := by rw [← pcC_append, List.take_append_drop]
  have hl : (pcC (v.take m)).length = m * 3 := by rw [pcC_len, List.length_take]; congr 1; omega
  rw [e, List.getElem?_append_right (by omega), hl, show m * 3 + j - m * 3 = j by omega]
  exact h
theorem slAt_dropP {w : World} {b off cap n m : Nat} {v : List Pt} (h : SlAt w (.slice (some ⟨b, off, none⟩) n cap) n 3 (pcC v)) (hv : v.length = n) (hm : m ≤ n) : SlAt w (.slice (some ⟨b, off + m * 3, none⟩) (n - m) (cap - m)) (n - m) 3 (pcC (v.drop m)) := by
  refine ⟨by rw [pcC_len, List.length_drop, hv], ?_⟩
  by_cases h0 : n - m = 0
  · right
    rcases h.2 with ⟨h1, _⟩ | ⟨b', off', cap', e, h1, h2, h3, h4⟩
    · cases h1
    · cases e
      refine ⟨b, off + m * 3, cap - m, rfl, by omega, by omega, h3, fun j u hj => ?_⟩
      have := h4 _ u (pcC_drop v m (by omega) hj)
      rw [show off + m * 3 + j = off + (m * 3 + j) by omega]
      exact this
  · right
    rcases h.2 with ⟨h1, _⟩ | ⟨b', off', cap', e, h1, h2, h3, h4⟩
    · cases h1
    · cases e
      refine ⟨b, off + m * 3, cap - m, rfl, by omega, by omega, h3, fun j u hj => ?_⟩
      have := h4 _ u (pcC_drop v m (by omega) hj)
      rw [show off + m * 3 + j = off + (m * 3 + j) by omega]
      exact this
/-- The first pitch in another octave. -/
def upO (o : Int) : List Pt → List Pt
  | [] => []
  | x :: l => ⟨x.s, x.a, o⟩ :: l
theorem upO_cells {o : Int} {l : List Pt} (h : 0 < l.length) : (pcC l).set 2 (.int .i64 o) = pcC (upO o l) := by
  cases l with
  | nil => simp at h
  | cons x l => rfl
theorem upO_len (o : Int) (l : List Pt) : (upO o l).length = l.length := by cases l <;> rfl
theorem upO_ok {o : Int} {l : List Pt} (h : ∀ x ∈ l, ptOk x) (h0 : -1 ≤ o ∧ o ≤ 9) : ∀ x ∈ upO o l, ptOk x := by
  cases l with
  | nil => exact h
  | cons x l =>
    intro y hy
    rcases List.mem_cons.1 hy with rfl | hy
    · have := h x List.mem_cons_self
      exact ⟨this.1, this.2.1, h0⟩
    · exact h y (List.mem_cons_of_mem _ hy)

/-- What drawing pitches leaves. -/
def DrewPs (r : Nat) (P : Int) (w : World) (e : Ending) (w' : World) : Prop :=
  ∃ (u : Value) (l : List Pt), (∀ x ∈ l, ptOk x) ∧ l.length ≤ 13 ∧ e = .returned u ∧ SlAt w' u l.length 3 (pcC l) ∧ Rd w' r (P + 200) ∧ ButR r w w'
theorem DrewPs.mk {r : Nat} {P Q : Int} {w w' : World} {u : Value} {l : List Pt} {L : List Item} (hO : Own w.heap.size (Bd r w Q) w' (.row 26 3 u l.length (pcC l) :: L)) (hQ : Q ≤ P + 200) (hv : ∀ x ∈ l, ptOk x) (hl : l.length ≤ 13) : DrewPs r P w (.returned u) w' :=
  ⟨u, l, hv, hl, rfl, SlAt.of_row hO.1.1, hO.base.2.mono hQ, hO.base.1⟩

theorem DrewPs.mk2 {r n : Nat} {P Q : Int} {w w' : World} {u : Value} {l : List Pt} {L : List Item} (hn : l.length = n) (hO : Own w.heap.size (Bd r w Q) w' (.row 26 3 u n (pcC l) :: L)) (hQ : Q ≤ P + 200) (hv : ∀ x ∈ l, ptOk x) (hl : n ≤ 13) : DrewPs r P w (.returned u) w' := by
  subst hn; exact DrewPs.mk hO hQ hv hl
theorem DrewPs.mk3 {r n q cap : Nat} {P Q : Int} {w w' : World} {l : List Pt} {L : List Item} (hn : l.length = n) (hO : Own w.heap.size (Bd r w Q) w' (.row 26 3 (.slice (some ⟨q, 0, none⟩) n cap) n (pcC l) :: L)) (hQ : Q ≤ P + 200) (hv : ∀ x ∈ l, ptOk x) (hl : n ≤ 13) (h1 : 1 ≤ n) : DrewPs r P w (.returned (.slice (some ⟨q, 0 + 1 * 3, none⟩) (n - 1) (cap - 1))) w' :=
  ⟨_, l.drop 1, fun x hx => hv x (List.mem_of_mem_drop hx), by rw [List.length_drop]; omega, rfl, by
    have := slAt_dropP (SlAt.of_row hO.1.1) hn h1
    rw [← hn] at this ⊢
    rw [List.length_drop]
    exact this, hO.base.2.mono hQ, hO.base.1⟩
theorem cells2 {l : List Pt} (h : 0 < l.length) : ∃ u, (pcC l)[2]? = some u := by
  cases l with
  | nil => simp at h
  | cons x l => exact ⟨_, rfl⟩

set_option maxRecDepth 8000 in
set_option maxHeartbeats 8000000 in
theorem l20Chord_any (r : Nat) (P : Int) (w : World) (h : Rd w r P) (hP : P ≤ 700000) :
    Calls Tryd.prog 16 #[.pointer (some ⟨r, 0, none⟩)] w (DrewPs r P w) := by
  have hr0 := h.lt
  have hO := Own.startD h
  have hF := True.intro
  obtain ⟨i0, hi0, hz0, hz1, hz2⟩ := info_parts infoPi
  clear h
  go_enter Tryd.func16, Tryd.ntmps16
  go_wp2_with fail
  replace hO := hO.allocRow (e := 26) (cur := #[]) (k := 0) (cap := 0) 3 (by omega) (by unfold maxLen; omega) rfl
  (go_at_call 34; apply own_at hO; (repeat (first | (with_reducible exact hO) | (with_reducible apply Own.alloc) | (with_reducible apply Own.drew) | ((with_reducible apply Own.set_at); (focus (show _ ≤ _; omega))))); have hG := hF; clear hF; clear hO; intro hO; refine own_pick (k := 4) hO hr0 (by omega) (by omega) (by omega) ?_; clear hO; intro x w1 x0 x1 hO; (try simp only [World.size_alloc1, World.size_drew, Nat.reduceAdd] at hO); (try simp only [upd, updI, List.map_cons, List.map_nil, eq_self, if_true, if_false, reduceIte, Nat.add_eq_left, Nat.left_eq_add, Nat.reduceEqDiff, List.set_cons_zero, List.set_cons_succ, hG] at hO); clear hG; have hF := hO; (try simp only [Own, Item.Holds, apartI, CellsAt, Nat.reduceAdd, Nat.zero_add, List.mem_cons, List.not_mem_nil, or_false, forall_eq_or_imp, forall_eq, ne_eq, false_imp_iff, implies_true, and_true] at hF))
  by_cases hx : x = 0
  · subst hx
    clear x0 x1
    go_wp2_with fail
    (go_at_call 34; apply own_at hO; (repeat (first | (with_reducible exact hO) | (with_reducible apply Own.alloc) | (with_reducible apply Own.drew) | ((with_reducible apply Own.set_at); (focus (show _ ≤ _; omega))))); have hG := hF; clear hF; clear hO; intro hO; refine own_pick (k := 5) hO hr0 (by omega) (by omega) (by omega) ?_; clear hO; intro x w1 x0 x1 hO; (try simp only [World.size_alloc1, World.size_drew, Nat.reduceAdd] at hO); (try simp only [upd, updI, List.map_cons, List.map_nil, eq_self, if_true, if_false, reduceIte, Nat.add_eq_left, Nat.left_eq_add, Nat.reduceEqDiff, List.set_cons_zero, List.set_cons_succ, hG] at hO); clear hG; have hF := hO; (try simp only [Own, Item.Holds, apartI, CellsAt, Nat.reduceAdd, Nat.zero_add, List.mem_cons, List.not_mem_nil, or_false, forall_eq_or_imp, forall_eq, ne_eq, false_imp_iff, implies_true, and_true] at hF))
    go_wp2_with fail
    go_loopw [3, 4] (fun u t wr => ∃ (m : Int) (v : List Pt), 0 ≤ m ∧ m ≤ 4 ∧ t = .int .i64 m ∧ (v.length : Int) + m ≤ 4 ∧ Hid (∀ x ∈ v, ptOk x) ∧ Own w.heap.size (Bd r w (P + 2 + 20 * (4 - m))) wr [.row 26 3 u v.length (pcC v)]) (fun _ t _ => (intOf t).toNat)
    case atStart => exact ⟨x, [], x0, by omega, rfl, by simp; omega, fun z hz => (by cases hz), hO.mono hr0 (by omega)⟩
    case round =>
      clear hO hF x0 x1
      obtain ⟨m, v, m0, m1, rfl, hvm, hv, hO⟩ := hrel
      have hF := True.intro
      have w1' : IntKind.i64.wrap (m - 1) = m - 1 := IntWalk.i64_in _ (by omega)
      by_cases hm : m = 0
      · subst hm
        clear w1'
        go_wp2_with fail
        (go_at_call 36; apply own_at hO; (repeat (first | (with_reducible exact hO) | (with_reducible apply Own.alloc) | (with_reducible apply Own.drew) | ((with_reducible apply Own.set_at); (focus (show _ ≤ _; omega))))); have hG := hF; clear hF; clear hO; intro hO; refine own_odd hO hr0 (by omega) (by omega) (by omega) ?_; clear hO; intro x w1 hO; (try simp only [World.size_alloc1, World.size_drew, Nat.reduceAdd] at hO); (try simp only [upd, updI, List.map_cons, List.map_nil, eq_self, if_true, if_false, reduceIte, Nat.add_eq_left, Nat.left_eq_add, Nat.reduceEqDiff, List.set_cons_zero, List.set_cons_succ, hG] at hO); clear hG; have hF := hO; (try simp only [Own, Item.Holds, apartI, CellsAt, Nat.reduceAdd, Nat.zero_add, List.mem_cons, List.not_mem_nil, or_false, forall_eq_or_imp, forall_eq, ne_eq, false_imp_iff, implies_true, and_true] at hF))
        replace hO := hO.mono (Q := P + 190) hr0 (by omega)
        cases x
        · go_wp2_with fail
          go_ret
          exact DrewPs.mk hO (by omega) hv.out (by omega)
        · go_wp2_with (at_make; go_loud (refine wpList_make_item rfl _ _ 23 rfl 26 i0 (.agg #[.int .i64 0, .int .i64 0, .int .i64 0]) 3 24 Tryd.underlying23 hi0 hz0 hz1 hz2 _ _ _ _ 13 rfl rfl rfl rfl (by omega) (by unfold maxLen; omega) (by (repeat (first | (with_reducible exact hO) | (with_reducible apply Own.alloc) | (with_reducible apply Own.drew) | ((with_reducible apply Own.set_at); (focus (show _ ≤ _; omega)))))) ?_); clear hO hF; intro q w2 hO; have hF := True.intro)
          rw [madeP 13] at hO
          go_ret
          exact DrewPs.mk (l := List.replicate 13 pt0) hO (by omega) (fun z hz => by rw [(List.mem_replicate.1 hz).2]; unfold ptOk pt0; simp) (by simp)
      · have hm1 : 0 < m := by omega
        clear hm
        go_wp2_with (first | (go_at_call 35; apply own_at hO; (repeat (first | (with_reducible exact hO) | (with_reducible apply Own.alloc) | (with_reducible apply Own.drew) | ((with_reducible apply Own.set_at); (focus (show _ ≤ _; omega))))); have hG := hF; clear hF; clear hO; intro hO; refine own_pitch hO hr0 (by omega) (by omega) (by omega) ?_; clear hO; intro s a o w1 hs ha ho hO; (try simp only [World.size_alloc1, World.size_drew, Nat.reduceAdd] at hO); (try simp only [upd, updI, List.map_cons, List.map_nil, eq_self, if_true, if_false, reduceIte, Nat.add_eq_left, Nat.left_eq_add, Nat.reduceEqDiff, List.set_cons_zero, List.set_cons_succ, hG] at hO); clear hG; have hF := hO; (try simp only [Own, Item.Holds, apartI, CellsAt, Nat.reduceAdd, Nat.zero_add, List.mem_cons, List.not_mem_nil, or_false, forall_eq_or_imp, forall_eq, ne_eq, false_imp_iff, implies_true, and_true] at hF)) | (at_builtin; apply own_list hO; (repeat (first | (with_reducible exact hO) | (with_reducible apply Own.alloc) | (with_reducible apply Own.drew) | ((with_reducible apply Own.set_at); (focus (show _ ≤ _; omega))))); have hG := hF; clear hF; clear hO; intro hO; (try simp only [World.size_alloc1, World.size_drew, Nat.reduceAdd] at hO); (try simp only [upd, updI, List.map_cons, List.map_nil, eq_self, if_true, if_false, reduceIte, Nat.add_eq_left, Nat.left_eq_add, Nat.reduceEqDiff, List.set_cons_zero, List.set_cons_succ, hG] at hO); clear hG; (try simp only [World.size_setCell] at hO); have hF := hO; (try simp only [Own, Item.Holds, apartI, CellsAt, Nat.reduceAdd, Nat.zero_add, List.mem_cons, List.not_mem_nil, or_false, forall_eq_or_imp, forall_eq, ne_eq, false_imp_iff, implies_true, and_true] at hF); refine wpList_append_item rfl _ _ 23 rfl 26 i0 (.agg #[.int .i64 0, .int .i64 0, .int .i64 0]) 3 24 Tryd.underlying23 hi0 hz0 hz1 hz2 rfl (by decide) rfl rfl hO rfl one3t (by unfold maxLen; omega) (by omega) ?_; clear hO hF; intro v' w3 hO _; have hF := True.intro))
        go_roundw
        case rel => exact ⟨m - 1, v ++ [⟨s, a, o⟩], by omega, by omega, rfl, by simp; omega, ok_snoc hv.out ⟨hs, ha, ho⟩, by rw [← pcC_snoc, List.length_append]; exact hO.mono hr0 (by omega)⟩
        case measure => simp [intOf]; omega
  · have hx1 : 0 < x := by omega
    clear hx x0 x1
    go_wp2_with fail
    (go_at_call 35; apply own_at hO; (repeat (first | (with_reducible exact hO) | (with_reducible apply Own.alloc) | (with_reducible apply Own.drew) | ((with_reducible apply Own.set_at); (focus (show _ ≤ _; omega))))); have hG := hF; clear hF; clear hO; intro hO; refine own_pitch hO hr0 (by omega) (by omega) (by omega) ?_; clear hO; intro s a o w1 hs ha ho hO; (try simp only [World.size_alloc1, World.size_drew, Nat.reduceAdd] at hO); (try simp only [upd, updI, List.map_cons, List.map_nil, eq_self, if_true, if_false, reduceIte, Nat.add_eq_left, Nat.left_eq_add, Nat.reduceEqDiff, List.set_cons_zero, List.set_cons_succ, hG] at hO); clear hG; have hF := hO; (try simp only [Own, Item.Holds, apartI, CellsAt, Nat.reduceAdd, Nat.zero_add, List.mem_cons, List.not_mem_nil, or_false, forall_eq_or_imp, forall_eq, ne_eq, false_imp_iff, implies_true, and_true] at hF))
    go_wp2_with fail
    (go_at_call 34; apply own_at hO; (repeat (first | (with_reducible exact hO) | (with_reducible apply Own.alloc) | (with_reducible apply Own.drew) | ((with_reducible apply Own.set_at); (focus (show _ ≤ _; omega))))); have hG := hF; clear hF; clear hO; intro hO; refine own_pick (k := 9) hO hr0 (by omega) (by omega) (by omega) ?_; clear hO; intro x w1 x0 x1 hO; (try simp only [World.size_alloc1, World.size_drew, Nat.reduceAdd] at hO); (try simp only [upd, updI, List.map_cons, List.map_nil, eq_self, if_true, if_false, reduceIte, Nat.add_eq_left, Nat.left_eq_add, Nat.reduceEqDiff, List.set_cons_zero, List.set_cons_succ, hG] at hO); clear hG; have hF := hO; (try simp only [Own, Item.Holds, apartI, CellsAt, Nat.reduceAdd, Nat.zero_add, List.mem_cons, List.not_mem_nil, or_false, forall_eq_or_imp, forall_eq, ne_eq, false_imp_iff, implies_true, and_true] at hF))
    obtain ⟨b, hb⟩ : ∃ b, chB ⟨s, a, o⟩ x = b := ⟨_, rfl⟩
    obtain ⟨l, hl⟩ : ∃ l, chL ⟨s, a, o⟩ x = l := ⟨_, rfl⟩
    obtain ⟨n, hn⟩ : ∃ n, l.length = n := ⟨_, rfl⟩
    have HC := hid (show ∀ W, Calls Tryd.prog 27 #[.agg #[.int .i64 s, .int .i64 a, .int .i64 o], .int .i64 x] W (RowOutB 26 3 n (pcC l) b W) from fun W => by
      have := chS_any ⟨s, a, o⟩ x W
      rw [hb, hl, hn] at this
      exact this)
    have HOK := hid (show ∀ y ∈ l, ptOk y by rw [← hl]; exact chL_ok _ _)
    have HN := hid hn
    have hn5 : n = 0 ∨ 3 ≤ n ∧ n ≤ 4 := by
      rw [← hn, ← hl]
      cases hbb : chB ⟨s, a, o⟩ x
      · left; rw [chL_no hbb]; rfl
      · right; rw [chL_n hbb]; exact toneL_len x
    clear hb hl hn x0 x1 hs ha ho
    replace hO := hO.mono (Q := P + 50) hr0 (by omega)
    go_wp2_with fail
    (go_at_call 27; apply own_at hO; (repeat (first | (with_reducible exact hO) | (with_reducible apply Own.alloc) | (with_reducible apply Own.drew) | ((with_reducible apply Own.set_at); (focus (show _ ≤ _; omega))))); have hG := hF; clear hF; clear hO; intro hO; refine own_call_rowB hO (fun hB => HC.out _) ?_; clear hO; intro v w1 hO; (try simp only [World.size_alloc1, World.size_drew, Nat.reduceAdd] at hO); (try simp only [upd, updI, List.map_cons, List.map_nil, eq_self, if_true, if_false, reduceIte, Nat.add_eq_left, Nat.left_eq_add, Nat.reduceEqDiff, List.set_cons_zero, List.set_cons_succ, hG] at hO); clear hG; have hF := hO; (try simp only [Own, Item.Holds, apartI, CellsAt, Nat.reduceAdd, Nat.zero_add, List.mem_cons, List.not_mem_nil, or_false, forall_eq_or_imp, forall_eq, ne_eq, false_imp_iff, implies_true, and_true] at hF))
    clear HC
    rcases hn5 with rfl | ⟨hn3, hn4⟩
    · obtain ⟨A1, c1, hv1⟩ := (SlAt.of_row hO.1.1).form
      subst hv1
      go_wp2_with fail
      go_ret
      exact DrewPs.mk2 HN.out hO (by omega) HOK.out (by omega)
    · obtain ⟨q, cap, hv1, hq1, hq2⟩ := hO.row_open (by omega)
      subst hv1
      clear hF
      have hF := hO; (try simp only [Own, Item.Holds, apartI, CellsAt, Nat.reduceAdd, Nat.zero_add, List.mem_cons, List.not_mem_nil, or_false, forall_eq_or_imp, forall_eq, ne_eq, false_imp_iff, implies_true, and_true] at hF)
      have hn0 : (0 : Int) < (n : Int) := by omega
      have hn1 : (1 : Int) < (n : Int) := by omega
      unfold maxLen at hq2
      go_wp2_with fail
      (go_at_call 34; apply own_at hO; (repeat (first | (with_reducible exact hO) | (with_reducible apply Own.alloc) | (with_reducible apply Own.drew) | ((with_reducible apply Own.set_at); (focus (show _ ≤ _; omega))))); have hG := hF; clear hF; clear hO; intro hO; refine own_pick (k := 2) hO hr0 (by omega) (by omega) (by omega) ?_; clear hO; intro x w1 x0 x1 hO; (try simp only [World.size_alloc1, World.size_drew, Nat.reduceAdd] at hO); (try simp only [upd, updI, List.map_cons, List.map_nil, eq_self, if_true, if_false, reduceIte, Nat.add_eq_left, Nat.left_eq_add, Nat.reduceEqDiff, List.set_cons_zero, List.set_cons_succ, hG] at hO); clear hG; have hF := hO; (try simp only [Own, Item.Holds, apartI, CellsAt, Nat.reduceAdd, Nat.zero_add, List.mem_cons, List.not_mem_nil, or_false, forall_eq_or_imp, forall_eq, ne_eq, false_imp_iff, implies_true, and_true] at hF))
      rcases (show x = 0 ∨ x = 1 by omega) with rfl | rfl
      · clear x0 x1
        have c2 := hO.row_cell (cells2 (l := l) (by rw [HN.out]; omega)).choose_spec
        have r2 := hO.row_free 2
        go_wp2_with fail
        replace hO := hO.row_set 2 (.int .i64 4)
        rw [upO_cells (by rw [HN.out]; omega)] at hO
        replace HN := hid ((upO_len 4 l).trans HN.out)
        replace HOK := hid (upO_ok (o := 4) HOK.out (by omega))
        obtain ⟨l, hl9⟩ : ∃ u, upO 4 l = u := ⟨_, rfl⟩
        rw [hl9] at hO HN HOK
        clear hl9 c2 r2 hF
        have hF := hO; (try simp only [Own, Item.Holds, apartI, CellsAt, Nat.reduceAdd, Nat.zero_add, List.mem_cons, List.not_mem_nil, or_false, forall_eq_or_imp, forall_eq, ne_eq, false_imp_iff, implies_true, and_true] at hF)
        (go_at_call 34; apply own_at hO; (repeat (first | (with_reducible exact hO) | (with_reducible apply Own.alloc) | (with_reducible apply Own.drew) | ((with_reducible apply Own.set_at); (focus (show _ ≤ _; omega))))); have hG := hF; clear hF; clear hO; intro hO; refine own_pick (k := n) hO hr0 (by omega) (by omega) (by omega) ?_; clear hO; intro x w1 x0 x1 hO; (try simp only [World.size_alloc1, World.size_drew, Nat.reduceAdd] at hO); (try simp only [upd, updI, List.map_cons, List.map_nil, eq_self, if_true, if_false, reduceIte, Nat.add_eq_left, Nat.left_eq_add, Nat.reduceEqDiff, List.set_cons_zero, List.set_cons_succ, hG] at hO); clear hG; have hF := hO; (try simp only [Own, Item.Holds, apartI, CellsAt, Nat.reduceAdd, Nat.zero_add, List.mem_cons, List.not_mem_nil, or_false, forall_eq_or_imp, forall_eq, ne_eq, false_imp_iff, implies_true, and_true] at hF))
        obtain ⟨k, rfl⟩ : ∃ k : Nat, x = k := ⟨x.toNat, by omega⟩
        have hkn : k < n := by omega
        obtain ⟨y, hy⟩ : ∃ y, l[k]? = some y := ⟨_, List.getElem?_eq_getElem (by rw [HN.out]; exact hkn)⟩
        have e0 := hO.row_cell (pcC_at hy).1
        have e1 := hO.row_cell (pcC_at hy).2.1
        have e2 := hO.row_cell (pcC_at hy).2.2
        have HY := hid (HOK.out y (List.mem_of_getElem? hy))
        clear hy
        go_wp2_with (at_builtin; apply own_list hO; (repeat (first | (with_reducible exact hO) | (with_reducible apply Own.alloc) | (with_reducible apply Own.drew) | ((with_reducible apply Own.set_at); (focus (show _ ≤ _; omega))))); have hG := hF; clear hF; clear hO; intro hO; (try simp only [World.size_alloc1, World.size_drew, Nat.reduceAdd] at hO); (try simp only [upd, updI, List.map_cons, List.map_nil, eq_self, if_true, if_false, reduceIte, Nat.add_eq_left, Nat.left_eq_add, Nat.reduceEqDiff, List.set_cons_zero, List.set_cons_succ, hG] at hO); clear hG; (try simp only [World.size_setCell] at hO); have hF := hO; (try simp only [Own, Item.Holds, apartI, CellsAt, Nat.reduceAdd, Nat.zero_add, List.mem_cons, List.not_mem_nil, or_false, forall_eq_or_imp, forall_eq, ne_eq, false_imp_iff, implies_true, and_true] at hF); refine wpList_append_item rfl _ _ 23 rfl 26 i0 (.agg #[.int .i64 0, .int .i64 0, .int .i64 0]) 3 24 Tryd.underlying23 hi0 hz0 hz1 hz2 rfl (by decide) rfl rfl hO rfl one3t (by unfold maxLen; omega) (by omega) ?_; clear hO hF; intro v' w3 hO _; obtain ⟨m2, hm2⟩ : ∃ m, n + 1 = m := ⟨_, rfl⟩; rw [hm2] at hO; obtain ⟨q2, cap2, hv2, hq3, hq4⟩ := hO.row_open (by omega); subst hv2; unfold maxLen at hq4; have hm0 : (0 : Int) < (m2 : Int) := (by omega); have hF := True.intro)
        rw [pcC_snoc] at hO
        replace HN := hid (show (l ++ [y]).length = n + 1 by simp [HN.out])
        replace HOK := hid (ok_snoc HOK.out HY.out)
        obtain ⟨l, hl9⟩ : ∃ u, l ++ [y] = u := ⟨_, rfl⟩
        rw [hl9] at hO HN HOK
        rw [hm2] at HN
        replace hn3 : 3 ≤ m2 := by omega
        replace hn4 : m2 ≤ 5 := by omega
        replace hn1 : (1 : Int) < (m2 : Int) := by omega
        clear hl9 hm2 hF
        have hF := hO; (try simp only [Own, Item.Holds, apartI, CellsAt, Nat.reduceAdd, Nat.zero_add, List.mem_cons, List.not_mem_nil, or_false, forall_eq_or_imp, forall_eq, ne_eq, false_imp_iff, implies_true, and_true] at hF)
        go_wp2_with fail
        (go_at_call 34; apply own_at hO; (repeat (first | (with_reducible exact hO) | (with_reducible apply Own.alloc) | (with_reducible apply Own.drew) | ((with_reducible apply Own.set_at); (focus (show _ ≤ _; omega))))); have hG := hF; clear hF; clear hO; intro hO; refine own_pick (k := 2) hO hr0 (by omega) (by omega) (by omega) ?_; clear hO; intro x w1 x0 x1 hO; (try simp only [World.size_alloc1, World.size_drew, Nat.reduceAdd] at hO); (try simp only [upd, updI, List.map_cons, List.map_nil, eq_self, if_true, if_false, reduceIte, Nat.add_eq_left, Nat.left_eq_add, Nat.reduceEqDiff, List.set_cons_zero, List.set_cons_succ, hG] at hO); clear hG; have hF := hO; (try simp only [Own, Item.Holds, apartI, CellsAt, Nat.reduceAdd, Nat.zero_add, List.mem_cons, List.not_mem_nil, or_false, forall_eq_or_imp, forall_eq, ne_eq, false_imp_iff, implies_true, and_true] at hF))
        rcases (show x = 0 ∨ x = 1 by omega) with rfl | rfl
        · clear x0 x1
          have c2 := hO.row_cell (cells2 (l := l) (by rw [HN.out]; omega)).choose_spec
          have r2 := hO.row_free 2
          go_wp2_with fail
          replace hO := hO.row_set 2 (.int .i64 5)
          rw [upO_cells (by rw [HN.out]; omega)] at hO
          replace HN := hid ((upO_len 5 l).trans HN.out)
          replace HOK := hid (upO_ok (o := 5) HOK.out (by omega))
          obtain ⟨l, hl9⟩ : ∃ u, upO 5 l = u := ⟨_, rfl⟩
          rw [hl9] at hO HN HOK
          clear hl9 c2 r2 hF
          have hF := hO; (try simp only [Own, Item.Holds, apartI, CellsAt, Nat.reduceAdd, Nat.zero_add, List.mem_cons, List.not_mem_nil, or_false, forall_eq_or_imp, forall_eq, ne_eq, false_imp_iff, implies_true, and_true] at hF)
          go_wp2_with fail
          (go_at_call 36; apply own_at hO; (repeat (first | (with_reducible exact hO) | (with_reducible apply Own.alloc) | (with_reducible apply Own.drew) | ((with_reducible apply Own.set_at); (focus (show _ ≤ _; omega))))); have hG := hF; clear hF; clear hO; intro hO; refine own_odd hO hr0 (by omega) (by omega) (by omega) ?_; clear hO; intro x w1 hO; (try simp only [World.size_alloc1, World.size_drew, Nat.reduceAdd] at hO); (try simp only [upd, updI, List.map_cons, List.map_nil, eq_self, if_true, if_false, reduceIte, Nat.add_eq_left, Nat.left_eq_add, Nat.reduceEqDiff, List.set_cons_zero, List.set_cons_succ, hG] at hO); clear hG; have hF := hO; (try simp only [Own, Item.Holds, apartI, CellsAt, Nat.reduceAdd, Nat.zero_add, List.mem_cons, List.not_mem_nil, or_false, forall_eq_or_imp, forall_eq, ne_eq, false_imp_iff, implies_true, and_true] at hF))
          cases x
          · go_wp2_with fail
            go_ret
            exact DrewPs.mk2 HN.out hO (by omega) HOK.out (by omega)
          · go_wp2_with fail
            go_ret
            exact DrewPs.mk3 HN.out hO (by omega) HOK.out (by omega) (by omega)
        · clear x0 x1
          go_wp2_with fail
          (go_at_call 36; apply own_at hO; (repeat (first | (with_reducible exact hO) | (with_reducible apply Own.alloc) | (with_reducible apply Own.drew) | ((with_reducible apply Own.set_at); (focus (show _ ≤ _; omega))))); have hG := hF; clear hF; clear hO; intro hO; refine own_odd hO hr0 (by omega) (by omega) (by omega) ?_; clear hO; intro x w1 hO; (try simp only [World.size_alloc1, World.size_drew, Nat.reduceAdd] at hO); (try simp only [upd, updI, List.map_cons, List.map_nil, eq_self, if_true, if_false, reduceIte, Nat.add_eq_left, Nat.left_eq_add, Nat.reduceEqDiff, List.set_cons_zero, List.set_cons_succ, hG] at hO); clear hG; have hF := hO; (try simp only [Own, Item.Holds, apartI, CellsAt, Nat.reduceAdd, Nat.zero_add, List.mem_cons, List.not_mem_nil, or_false, forall_eq_or_imp, forall_eq, ne_eq, false_imp_iff, implies_true, and_true] at hF))
          cases x
          · go_wp2_with fail
            go_ret
            exact DrewPs.mk2 HN.out hO (by omega) HOK.out (by omega)
          · go_wp2_with fail
            go_ret
            exact DrewPs.mk3 HN.out hO (by omega) HOK.out (by omega) (by omega)
      · clear x0 x1
        go_wp2_with fail
        (go_at_call 34; apply own_at hO; (repeat (first | (with_reducible exact hO) | (with_reducible apply Own.alloc) | (with_reducible apply Own.drew) | ((with_reducible apply Own.set_at); (focus (show _ ≤ _; omega))))); have hG := hF; clear hF; clear hO; intro hO; refine own_pick (k := 2) hO hr0 (by omega) (by omega) (by omega) ?_; clear hO; intro x w1 x0 x1 hO; (try simp only [World.size_alloc1, World.size_drew, Nat.reduceAdd] at hO); (try simp only [upd, updI, List.map_cons, List.map_nil, eq_self, if_true, if_false, reduceIte, Nat.add_eq_left, Nat.left_eq_add, Nat.reduceEqDiff, List.set_cons_zero, List.set_cons_succ, hG] at hO); clear hG; have hF := hO; (try simp only [Own, Item.Holds, apartI, CellsAt, Nat.reduceAdd, Nat.zero_add, List.mem_cons, List.not_mem_nil, or_false, forall_eq_or_imp, forall_eq, ne_eq, false_imp_iff, implies_true, and_true] at hF))
        rcases (show x = 0 ∨ x = 1 by omega) with rfl | rfl
        · clear x0 x1
          have c2 := hO.row_cell (cells2 (l := l) (by rw [HN.out]; omega)).choose_spec
          have r2 := hO.row_free 2
          go_wp2_with fail
          replace hO := hO.row_set 2 (.int .i64 5)
          rw [upO_cells (by rw [HN.out]; omega)] at hO
          replace HN := hid ((upO_len 5 l).trans HN.out)
          replace HOK := hid (upO_ok (o := 5) HOK.out (by omega))
          obtain ⟨l, hl9⟩ : ∃ u, upO 5 l = u := ⟨_, rfl⟩
          rw [hl9] at hO HN HOK
          clear hl9 c2 r2 hF
          have hF := hO; (try simp only [Own, Item.Holds, apartI, CellsAt, Nat.reduceAdd, Nat.zero_add, List.mem_cons, List.not_mem_nil, or_false, forall_eq_or_imp, forall_eq, ne_eq, false_imp_iff, implies_true, and_true] at hF)
          go_wp2_with fail
          (go_at_call 36; apply own_at hO; (repeat (first | (with_reducible exact hO) | (with_reducible apply Own.alloc) | (with_reducible apply Own.drew) | ((with_reducible apply Own.set_at); (focus (show _ ≤ _; omega))))); have hG := hF; clear hF; clear hO; intro hO; refine own_odd hO hr0 (by omega) (by omega) (by omega) ?_; clear hO; intro x w1 hO; (try simp only [World.size_alloc1, World.size_drew, Nat.reduceAdd] at hO); (try simp only [upd, updI, List.map_cons, List.map_nil, eq_self, if_true, if_false, reduceIte, Nat.add_eq_left, Nat.left_eq_add, Nat.reduceEqDiff, List.set_cons_zero, List.set_cons_succ, hG] at hO); clear hG; have hF := hO; (try simp only [Own, Item.Holds, apartI, CellsAt, Nat.reduceAdd, Nat.zero_add, List.mem_cons, List.not_mem_nil, or_false, forall_eq_or_imp, forall_eq, ne_eq, false_imp_iff, implies_true, and_true] at hF))
          cases x
          · go_wp2_with fail
            go_ret
            exact DrewPs.mk2 HN.out hO (by omega) HOK.out (by omega)
          · go_wp2_with fail
            go_ret
            exact DrewPs.mk3 HN.out hO (by omega) HOK.out (by omega) (by omega)
        · clear x0 x1
          go_wp2_with fail
          (go_at_call 36; apply own_at hO; (repeat (first | (with_reducible exact hO) | (with_reducible apply Own.alloc) | (with_reducible apply Own.drew) | ((with_reducible apply Own.set_at); (focus (show _ ≤ _; omega))))); have hG := hF; clear hF; clear hO; intro hO; refine own_odd hO hr0 (by omega) (by omega) (by omega) ?_; clear hO; intro x w1 hO; (try simp only [World.size_alloc1, World.size_drew, Nat.reduceAdd] at hO); (try simp only [upd, updI, List.map_cons, List.map_nil, eq_self, if_true, if_false, reduceIte, Nat.add_eq_left, Nat.left_eq_add, Nat.reduceEqDiff, List.set_cons_zero, List.set_cons_succ, hG] at hO); clear hG; have hF := hO; (try simp only [Own, Item.Holds, apartI, CellsAt, Nat.reduceAdd, Nat.zero_add, List.mem_cons, List.not_mem_nil, or_false, forall_eq_or_imp, forall_eq, ne_eq, false_imp_iff, implies_true, and_true] at hF))
          cases x
          · go_wp2_with fail
            go_ret
            exact DrewPs.mk2 HN.out hO (by omega) HOK.out (by omega)
          · go_wp2_with fail
            go_ret
            exact DrewPs.mk3 HN.out hO (by omega) HOK.out (by omega) (by omega)

/-- What drawing for a law leaves: a pitch and a kind; pitches. -/
def DrewPk (w : World) (e : Ending) (w' : World) : Prop :=
  ∃ (x : Pt) (k : Int), ptOk x ∧ (-1 ≤ k ∧ k ≤ 9) ∧ e = .returned (.tuple #[.agg #[.int .i64 x.s, .int .i64 x.a, .int .i64 x.o], .int .i64 k]) ∧ Below w.heap.size w w'
def DrewLs (w : World) (e : Ending) (w' : World) : Prop :=
  ∃ (u : Value) (l : List Pt), (∀ x ∈ l, ptOk x) ∧ l.length ≤ 13 ∧ e = .returned u ∧ SlAt w' u l.length 3 (pcC l) ∧ Below w.heap.size w w'

set_option maxHeartbeats 1000000 in
theorem DrawNameChord_any (v : Value) (n : Nat) (w : World) (hn : n ≤ maxLen) (h : BytesB w w.heap.size v n) :
    Calls Tryd.prog 5 #[v] w (DrewLs w) := by
  go_enter Tryd.func5, Tryd.ntmps5
  go_wp2_with fail
  refine (open_any v n _ hn h).mono ?_
  rintro e w1 ⟨r, hr, rfl, hR, hb⟩
  go_wp2_with fail
  refine (l20Chord_any r 0 _ hR (by omega)).mono ?_
  rintro e w2 ⟨u, l, hv, hl, rfl, ho, hR2, hB2⟩
  have HO := hid (And.intro ho (hB2.below hb hr))
  have HV := hid hv
  clear hR hb h hn hR2 hB2 ho hv
  go_wp2
  go_ret
  exact ⟨u, l, HV.out, hl, rfl, HO.out.1, HO.out.2⟩

end Go.Proofs.YtikkcehjfcfcdaaDoor
