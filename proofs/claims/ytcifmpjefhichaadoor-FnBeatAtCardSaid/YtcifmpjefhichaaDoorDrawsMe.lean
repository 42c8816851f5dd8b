/- l20Meter: a meter is drawn; the functions that draw for a law of chapter 6. -/
import Derived.Test.YtcifmpjefhichaaDoorDrawsVo
import Derived.Deep.CutRange
import Derived.Deep.DeepCutAuto
namespace Go.Proofs.YtcifmpjefhichaaDoor
set_option linter.unusedSimpArgs false
set_option linter.unusedVariables false
open Go.RowKit

/-- What is known of a meter that is drawn. -/
def meOk (b u : Int) : Prop := (0 ≤ b ∧ b ≤ 13) ∧ (1 ≤ u ∧ u ≤ 32)
/-- What drawing a meter leaves. -/
def DrewMe (r : Nat) (P : Int) (w : World) (e : Ending) (w' : World) : Prop :=
  ∃ b u : Int, meOk b u ∧ e = .returned (.agg #[.int .i64 b, .int .i64 u]) ∧ Rd w' r (P + 8) ∧ ButR r w w'

set_option maxHeartbeats 8000000 in
theorem l20Meter_any (r : Nat) (P n : Int) (w : World) (h : Rd w r P) (hP : P ≤ 800000) (n0 : 0 ≤ n) (n1 : n ≤ 1000000) :
    Calls Tryd.prog 45 #[.pointer (some ⟨r, 0, none⟩), .int .i64 n] w (DrewMe r P w) := by
  have hr0 := h.lt
  have hO := Own.startD h
  have hF := True.intro
  clear h
  go_enter Tryd.func45, Tryd.ntmps45
  go_wp2_with fail
  (go_at_call 52; apply own_at hO; (repeat (first | (with_reducible exact hO) | (with_reducible apply Own.alloc) | (with_reducible apply Own.drew) | ((with_reducible apply Own.set_at); (focus (show _ ≤ _; omega))))); have hG := hF; clear hF; clear hO; intro hO; refine own_pick (k := 12) hO hr0 (by omega) (by omega) (by omega) ?_; clear hO; intro x w1 x0 x1 hO; (try simp only [World.size_alloc1, World.size_drew, Nat.reduceAdd] at hO); (try simp only [upd, updI, List.map_cons, List.map_nil, eq_self, if_true, if_false, reduceIte, Nat.add_eq_left, Nat.left_eq_add, Nat.reduceEqDiff, List.set_cons_zero, List.set_cons_succ, hG] at hO); clear hG; have hF := hO; (try simp only [Own, Item.Holds, apartI, CellsAt, Nat.reduceAdd, Nat.zero_add, List.mem_cons, List.not_mem_nil, or_false, forall_eq_or_imp, forall_eq, ne_eq, false_imp_iff, implies_true, and_true] at hF))
  obtain ⟨b, hb⟩ : ∃ b, 1 + x = b := ⟨_, rfl⟩
  have wb : IntKind.i64.wrap (1 + x) = b := by rw [hb]; exact IntWalk.i64_in _ (by omega)
  have bb : 0 ≤ b ∧ b ≤ 13 := by omega
  clear hb x0 x1
  go_wp2_with fail
  (go_at_call 52; apply own_at hO; (repeat (first | (with_reducible exact hO) | (with_reducible apply Own.alloc) | (with_reducible apply Own.drew) | ((with_reducible apply Own.set_at); (focus (show _ ≤ _; omega))))); have hG := hF; clear hF; clear hO; intro hO; refine own_pick (k := 5) hO hr0 (by omega) (by omega) (by omega) ?_; clear hO; intro x w1 x0 x1 hO; (try simp only [World.size_alloc1, World.size_drew, Nat.reduceAdd] at hO); (try simp only [upd, updI, List.map_cons, List.map_nil, eq_self, if_true, if_false, reduceIte, Nat.add_eq_left, Nat.left_eq_add, Nat.reduceEqDiff, List.set_cons_zero, List.set_cons_succ, hG] at hO); clear hG; have hF := hO; (try simp only [Own, Item.Holds, apartI, CellsAt, Nat.reduceAdd, Nat.zero_add, List.mem_cons, List.not_mem_nil, or_false, forall_eq_or_imp, forall_eq, ne_eq, false_imp_iff, implies_true, and_true] at hF); obtain ⟨u, hu, hc⟩ := hO.num_in (lo := 1) (hi := 32) (x := x) [2, 4, 4, 8, 16] List.mem_cons_self x0 (by simpa using x1) (by decide))
  go_upto_region 2 with fail
  (apply own_code hO; (repeat (first | (with_reducible exact hO) | (with_reducible apply Own.alloc) | (with_reducible apply Own.drew) | ((with_reducible apply Own.set_at); (focus (show _ ≤ _; omega))))); have hG := hF; clear hF; clear hO; intro hO; (try simp only [World.size_alloc1, World.size_drew, Nat.reduceAdd] at hO); (try simp only [upd, updI, List.map_cons, List.map_nil, eq_self, if_true, if_false, reduceIte, Nat.add_eq_left, Nat.left_eq_add, Nat.reduceEqDiff, List.set_cons_zero, List.set_cons_succ, hG] at hO); clear hG; have hF := hO; (try simp only [Own, Item.Holds, apartI, CellsAt, Nat.reduceAdd, Nat.zero_add, List.mem_cons, List.not_mem_nil, or_false, forall_eq_or_imp, forall_eq, ne_eq, false_imp_iff, implies_true, and_true] at hF))
  replace hO := Own.sub (.cons_cons _ (.cons _ (.cons_cons _ .slnil))) hO
  obtain ⟨q, hq⟩ : ∃ q, w1.heap.size = q := ⟨_, rfl⟩
  rw [hq] at hO ⊢
  clear hF x0 x1 hc wb
  have hF := hO; (try simp only [Own, Item.Holds, apartI, CellsAt, Nat.reduceAdd, Nat.zero_add, List.mem_cons, List.not_mem_nil, or_false, forall_eq_or_imp, forall_eq, ne_eq, false_imp_iff, implies_true, and_true] at hF)
  go_upto_if 17 with (go_at_call 64; apply own_at hO; (repeat (first | (with_reducible exact hO) | (with_reducible apply Own.alloc) | (with_reducible apply Own.drew) | ((with_reducible apply Own.set_at); (focus (show _ ≤ _; omega))))); have hG := hF; clear hF; clear hO; intro hO; refine own_odd hO hr0 (by omega) (by omega) (by omega) ?_; clear hO; intro x w1 hO; (try simp only [World.size_alloc1, World.size_drew, Nat.reduceAdd] at hO); (try simp only [upd, updI, List.map_cons, List.map_nil, eq_self, if_true, if_false, reduceIte, Nat.add_eq_left, Nat.left_eq_add, Nat.reduceEqDiff, List.set_cons_zero, List.set_cons_succ, hG] at hO); clear hG; have hF := hO; (try simp only [Own, Item.Holds, apartI, CellsAt, Nat.reduceAdd, Nat.zero_add, List.mem_cons, List.not_mem_nil, or_false, forall_eq_or_imp, forall_eq, ne_eq, false_imp_iff, implies_true, and_true] at hF))
  go_cut [5] (fun s5 wx => s5 = .pointer (some ⟨q, 0, none⟩) ∧ ∃ b u : Int, meOk b u ∧ Own w.heap.size (Bd r w (P + 6)) wx [.blk q [.int .i64 b, .int .i64 u], .blk w.heap.size [.int .i64 0, .int .i64 0]])
  case first =>
    cases x
    · go_wp2_with fail
      go_meet
      replace hO := hO.mono (Q := P + 6) hr0 (by omega)
      exact ⟨rfl, b, u, ⟨bb, hu⟩, hO⟩
    · go_wp2_with fail
      (go_at_call 52; apply own_at hO; (repeat (first | (with_reducible exact hO) | (with_reducible apply Own.alloc) | (with_reducible apply Own.drew) | ((with_reducible apply Own.set_at); (focus (show _ ≤ _; omega))))); have hG := hF; clear hF; clear hO; intro hO; refine own_pick (k := 2) hO hr0 (by omega) (by omega) (by omega) ?_; clear hO; intro x w1 x0 x1 hO; (try simp only [World.size_alloc1, World.size_drew, Nat.reduceAdd] at hO); (try simp only [upd, updI, List.map_cons, List.map_nil, eq_self, if_true, if_false, reduceIte, Nat.add_eq_left, Nat.left_eq_add, Nat.reduceEqDiff, List.set_cons_zero, List.set_cons_succ, hG] at hO); clear hG; have hF := hO; (try simp only [Own, Item.Holds, apartI, CellsAt, Nat.reduceAdd, Nat.zero_add, List.mem_cons, List.not_mem_nil, or_false, forall_eq_or_imp, forall_eq, ne_eq, false_imp_iff, implies_true, and_true] at hF))
      rcases (show x = 0 ∨ x = 1 by omega) with rfl | rfl
      · clear x0 x1
        go_wp2_with (go_at_call 52; apply own_at hO; (repeat (first | (with_reducible exact hO) | (with_reducible apply Own.alloc) | (with_reducible apply Own.drew) | ((with_reducible apply Own.set_at); (focus (show _ ≤ _; omega))))); have hG := hF; clear hF; clear hO; intro hO; refine own_pick (k := 2) hO hr0 (by omega) (by omega) (by omega) ?_; clear hO; intro x w1 x0 x1 hO; (try simp only [World.size_alloc1, World.size_drew, Nat.reduceAdd] at hO); (try simp only [upd, updI, List.map_cons, List.map_nil, eq_self, if_true, if_false, reduceIte, Nat.add_eq_left, Nat.left_eq_add, Nat.reduceEqDiff, List.set_cons_zero, List.set_cons_succ, hG] at hO); clear hG; have hF := hO; (try simp only [Own, Item.Holds, apartI, CellsAt, Nat.reduceAdd, Nat.zero_add, List.mem_cons, List.not_mem_nil, or_false, forall_eq_or_imp, forall_eq, ne_eq, false_imp_iff, implies_true, and_true] at hF); obtain ⟨z, hz, hc⟩ := hO.num_in (lo := 0) (hi := 13) (x := x) [0, 13] List.mem_cons_self x0 (by simpa using x1) (by decide))
        go_meet
        replace hO := hO.mono (Q := P + 6) hr0 (by omega)
        replace hO := Own.sub (.cons _ (.cons_cons _ (.cons_cons _ .slnil))) hO
        exact ⟨rfl, z, u, ⟨hz, hu⟩, by (apply Own.cast; (focus ((repeat (first | (with_reducible exact hO) | (with_reducible apply Own.alloc) | (with_reducible apply Own.drew) | ((with_reducible apply Own.set_at); (focus (show _ ≤ _; omega))))))); (first | rfl | (simp only [upd, updI, List.map_cons, List.map_nil, eq_self, if_true, if_false, reduceIte, Nat.add_eq_left, Nat.left_eq_add, Nat.reduceEqDiff, List.set_cons_zero, List.set_cons_succ, hF]; done) | (simp [upd, updI, List.map_cons, List.map_nil, eq_self, if_true, if_false, reduceIte, Nat.add_eq_left, Nat.left_eq_add, Nat.reduceEqDiff, List.set_cons_zero, List.set_cons_succ, hF]; done)))⟩
      · clear x0 x1
        go_wp2_with (go_at_call 52; apply own_at hO; (repeat (first | (with_reducible exact hO) | (with_reducible apply Own.alloc) | (with_reducible apply Own.drew) | ((with_reducible apply Own.set_at); (focus (show _ ≤ _; omega))))); have hG := hF; clear hF; clear hO; intro hO; refine own_pick (k := 3) hO hr0 (by omega) (by omega) (by omega) ?_; clear hO; intro x w1 x0 x1 hO; (try simp only [World.size_alloc1, World.size_drew, Nat.reduceAdd] at hO); (try simp only [upd, updI, List.map_cons, List.map_nil, eq_self, if_true, if_false, reduceIte, Nat.add_eq_left, Nat.left_eq_add, Nat.reduceEqDiff, List.set_cons_zero, List.set_cons_succ, hG] at hO); clear hG; have hF := hO; (try simp only [Own, Item.Holds, apartI, CellsAt, Nat.reduceAdd, Nat.zero_add, List.mem_cons, List.not_mem_nil, or_false, forall_eq_or_imp, forall_eq, ne_eq, false_imp_iff, implies_true, and_true] at hF); obtain ⟨z, hz, hc⟩ := hO.num_in (lo := 1) (hi := 32) (x := x) [1, 3, 32] List.mem_cons_self x0 (by simpa using x1) (by decide))
        go_meet
        replace hO := hO.mono (Q := P + 6) hr0 (by omega)
        replace hO := Own.sub (.cons _ (.cons_cons _ (.cons_cons _ .slnil))) hO
        exact ⟨rfl, b, z, ⟨bb, hz⟩, by (apply Own.cast; (focus ((repeat (first | (with_reducible exact hO) | (with_reducible apply Own.alloc) | (with_reducible apply Own.drew) | ((with_reducible apply Own.set_at); (focus (show _ ≤ _; omega))))))); (first | rfl | (simp only [upd, updI, List.map_cons, List.map_nil, eq_self, if_true, if_false, reduceIte, Nat.add_eq_left, Nat.left_eq_add, Nat.reduceEqDiff, List.set_cons_zero, List.set_cons_succ, hF]; done) | (simp [upd, updI, List.map_cons, List.map_nil, eq_self, if_true, if_false, reduceIte, Nat.add_eq_left, Nat.left_eq_add, Nat.reduceEqDiff, List.set_cons_zero, List.set_cons_succ, hF]; done)))⟩
  case rest =>
    clear hO hF bb hu
    obtain ⟨rfl, b', u', hx, hO⟩ := hcut
    have HX := hid hx
    clear hx
    have hF := hO; (try simp only [Own, Item.Holds, apartI, CellsAt, Nat.reduceAdd, Nat.zero_add, List.mem_cons, List.not_mem_nil, or_false, forall_eq_or_imp, forall_eq, ne_eq, false_imp_iff, implies_true, and_true] at hF)
    go_wp2_with fail
    apply own_end hO
    (repeat (first | (with_reducible exact hO) | (with_reducible apply Own.alloc) | (with_reducible apply Own.drew) | ((with_reducible apply Own.set_at); (focus (show _ ≤ _; omega)))))
    have hG := hF; clear hF; clear hO; intro hO
    refine own_ret (v := .agg #[.int .i64 b', .int .i64 u']) hO ?_ rfl (fun hO => ⟨b', u', HX.out, rfl, hO.base.2.mono (by omega), hO.base.1⟩)
    clear hO; intro w1 hO
    (try simp only [World.size_alloc1, World.size_drew, Nat.reduceAdd] at hO); (try simp only [upd, updI, List.map_cons, List.map_nil, eq_self, if_true, if_false, reduceIte, Nat.add_eq_left, Nat.left_eq_add, Nat.reduceEqDiff, List.set_cons_zero, List.set_cons_succ, hG] at hO); clear hG
    have hF := hO; (try simp only [Own, Item.Holds, apartI, CellsAt, Nat.reduceAdd, Nat.zero_add, List.mem_cons, List.not_mem_nil, or_false, forall_eq_or_imp, forall_eq, ne_eq, false_imp_iff, implies_true, and_true] at hF)
    simp [results, Tryd.results45, go_sem, hF]

/-- What drawing a meter for a law leaves; a voice and a meter; a meter and a tick. -/
def DrewM (w : World) (e : Ending) (w' : World) : Prop :=
  ∃ b u : Int, meOk b u ∧ e = .returned (.agg #[.int .i64 b, .int .i64 u]) ∧ Below w.heap.size w w'
def DrewVm (w : World) (e : Ending) (w' : World) : Prop :=
  ∃ (z : Value) (v : List Nt) (b u : Int), (∀ x ∈ v, ntOk x) ∧ v.length ≤ 61 ∧ meOk b u ∧ e = .returned (.tuple #[z, .agg #[.int .i64 b, .int .i64 u]]) ∧ Own w.heap.size (Below w.heap.size w) w' [.row 46 6 z v.length (vcC v)]
def DrewMt (w : World) (e : Ending) (w' : World) : Prop :=
  ∃ b u t : Int, meOk b u ∧ (-1 ≤ t ∧ t ≤ 9223372036854775807) ∧ e = .returned (.tuple #[.agg #[.int .i64 b, .int .i64 u], .int .i64 t]) ∧ Below w.heap.size w w'

set_option maxHeartbeats 1000000 in
theorem DrawMeterValid_any (v : Value) (n : Nat) (w : World) (hn : n ≤ maxLen) (h : BytesB w w.heap.size v n) :
    Calls Tryd.prog 15 #[v] w (DrewM w) := by
  have hO := Own.start w
  have hF := True.intro
  go_enter Tryd.func15, Tryd.ntmps15
  go_wp2_with fail
  apply own_at hO
  (repeat (first | (with_reducible exact hO) | (with_reducible apply Own.alloc) | (with_reducible apply Own.drew) | ((with_reducible apply Own.set_at); (focus (show _ ≤ _; omega)))))
  intro hO1
  refine (open_any v n _ hn (h.alloc _)).mono ?_
  rintro e w1 ⟨r, hr, rfl, hR, hb⟩
  have hne := hO1.ne_of hr
  have hr0 := Nat.le_trans hO1.low hr
  replace hO := hO1.below hb
  clear hO1 hb h hn
  go_wp2_with fail
  refine (l20Meter_any r 0 _ _ hR (by omega) (by omega) (by omega)).mono ?_
  rintro e w2 ⟨b, u, hx, rfl, hR2, hB2⟩
  replace hO := hO.drawn hB2 hr0 hne
  have HX := hid hx
  clear hR hR2 hB2 hne hx
  have hG := hF
  (try simp only [World.size_alloc1, World.size_drew, Nat.reduceAdd] at hO); (try simp only [upd, updI, List.map_cons, List.map_nil, eq_self, if_true, if_false, reduceIte, Nat.add_eq_left, Nat.left_eq_add, Nat.reduceEqDiff, List.set_cons_zero, List.set_cons_succ, hG] at hO); clear hG
  clear hF
  have hF := hO; (try simp only [Own, Item.Holds, apartI, CellsAt, Nat.reduceAdd, Nat.zero_add, List.mem_cons, List.not_mem_nil, or_false, forall_eq_or_imp, forall_eq, ne_eq, false_imp_iff, implies_true, and_true] at hF)
  go_wp2
  apply own_end hO
  (repeat (first | (with_reducible exact hO) | (with_reducible apply Own.alloc) | (with_reducible apply Own.drew) | ((with_reducible apply Own.set_at); (focus (show _ ≤ _; omega)))))
  have hG := hF; clear hF; clear hO; intro hO
  refine own_ret (v := .agg #[.int .i64 b, .int .i64 u]) hO ?_ rfl (fun hO => ⟨b, u, HX.out, rfl, hO.base⟩)
  clear hO; intro w1 hO
  (try simp only [World.size_alloc1, World.size_drew, Nat.reduceAdd] at hO); (try simp only [upd, updI, List.map_cons, List.map_nil, eq_self, if_true, if_false, reduceIte, Nat.add_eq_left, Nat.left_eq_add, Nat.reduceEqDiff, List.set_cons_zero, List.set_cons_succ, hG] at hO); clear hG
  have hF := hO; (try simp only [Own, Item.Holds, apartI, CellsAt, Nat.reduceAdd, Nat.zero_add, List.mem_cons, List.not_mem_nil, or_false, forall_eq_or_imp, forall_eq, ne_eq, false_imp_iff, implies_true, and_true] at hF)
  simp [results, Tryd.results15, go_sem, hF]

set_option maxHeartbeats 1000000 in
theorem DrawBarTicks_any (v : Value) (n : Nat) (w : World) (hn : n ≤ maxLen) (h : BytesB w w.heap.size v n) :
    Calls Tryd.prog 19 #[v] w (DrewM w) := by
  have hO := Own.start w
  have hF := True.intro
  go_enter Tryd.func19, Tryd.ntmps19
  go_wp2_with fail
  apply own_at hO
  (repeat (first | (with_reducible exact hO) | (with_reducible apply Own.alloc) | (with_reducible apply Own.drew) | ((with_reducible apply Own.set_at); (focus (show _ ≤ _; omega)))))
  intro hO1
  refine (open_any v n _ hn (h.alloc _)).mono ?_
  rintro e w1 ⟨r, hr, rfl, hR, hb⟩
  have hne := hO1.ne_of hr
  have hr0 := Nat.le_trans hO1.low hr
  replace hO := hO1.below hb
  clear hO1 hb h hn
  go_wp2_with fail
  refine (l20Meter_any r 0 _ _ hR (by omega) (by omega) (by omega)).mono ?_
  rintro e w2 ⟨b, u, hx, rfl, hR2, hB2⟩
  replace hO := hO.drawn hB2 hr0 hne
  have HX := hid hx
  clear hR hR2 hB2 hne hx
  have hG := hF
  (try simp only [World.size_alloc1, World.size_drew, Nat.reduceAdd] at hO); (try simp only [upd, updI, List.map_cons, List.map_nil, eq_self, if_true, if_false, reduceIte, Nat.add_eq_left, Nat.left_eq_add, Nat.reduceEqDiff, List.set_cons_zero, List.set_cons_succ, hG] at hO); clear hG
  clear hF
  have hF := hO; (try simp only [Own, Item.Holds, apartI, CellsAt, Nat.reduceAdd, Nat.zero_add, List.mem_cons, List.not_mem_nil, or_false, forall_eq_or_imp, forall_eq, ne_eq, false_imp_iff, implies_true, and_true] at hF)
  go_wp2
  apply own_end hO
  (repeat (first | (with_reducible exact hO) | (with_reducible apply Own.alloc) | (with_reducible apply Own.drew) | ((with_reducible apply Own.set_at); (focus (show _ ≤ _; omega)))))
  have hG := hF; clear hF; clear hO; intro hO
  refine own_ret (v := .agg #[.int .i64 b, .int .i64 u]) hO ?_ rfl (fun hO => ⟨b, u, HX.out, rfl, hO.base⟩)
  clear hO; intro w1 hO
  (try simp only [World.size_alloc1, World.size_drew, Nat.reduceAdd] at hO); (try simp only [upd, updI, List.map_cons, List.map_nil, eq_self, if_true, if_false, reduceIte, Nat.add_eq_left, Nat.left_eq_add, Nat.reduceEqDiff, List.set_cons_zero, List.set_cons_succ, hG] at hO); clear hG
  have hF := hO; (try simp only [Own, Item.Holds, apartI, CellsAt, Nat.reduceAdd, Nat.zero_add, List.mem_cons, List.not_mem_nil, or_false, forall_eq_or_imp, forall_eq, ne_eq, false_imp_iff, implies_true, and_true] at hF)
  simp [results, Tryd.results19, go_sem, hF]

set_option maxHeartbeats 1000000 in
theorem DrawSplitBars_any (v : Value) (n : Nat) (w : World) (hn : n ≤ maxLen) (h : BytesB w w.heap.size v n) :
    Calls Tryd.prog 26 #[v] w (DrewVm w) := by
  have hO := Own.start w
  have hF := True.intro
  go_enter Tryd.func26, Tryd.ntmps26
  go_wp2_with fail
  apply own_at hO
  (repeat (first | (with_reducible exact hO) | (with_reducible apply Own.alloc) | (with_reducible apply Own.drew) | ((with_reducible apply Own.set_at); (focus (show _ ≤ _; omega)))))
  intro hO1
  refine (open_any v n _ hn (h.alloc _)).mono ?_
  rintro e w1 ⟨r, hr, rfl, hR, hb⟩
  have hne := hO1.ne_of hr
  have hr0 := Nat.le_trans hO1.low hr
  replace hO := hO1.below hb
  have hrl := hR.lt
  clear hO1 hb h hn
  go_wp2_with fail
  refine (l20Voice_any r 0 _ _ hR (by omega) (by omega) (by omega)).mono ?_
  rintro e w2 ⟨u, vs, hv, hl, rfl, ho, hR2, hB2⟩
  have hO2 := (hO.drawn hB2 hr0 hne).joinRow ho (Nat.le_trans hr0 (Nat.le_of_lt hrl)) (fun x hx g hg => by have := (hO.lt x hx g hg).2; exact this)
  have hne2 : ∀ x ∈ [Item.row 46 6 u vs.length (vcC vs), Item.blk w.heap.size [Value.int .i64 0, .int .i64 0]], x.at? ≠ some r := fun x hx e => by
    rcases List.mem_cons.1 hx with rfl | hx
    · have := (World.ownsRow.lt ho r e).1; omega
    · exact hne x hx e
  have HV := hid hv
  clear hR hB2 hO hne ho hv
  go_wp2_with fail
  refine (l20Meter_any r (0 + 500) _ _ hR2 (by omega) (by omega) (by omega)).mono ?_
  rintro e w3 ⟨mb, mu, hx, rfl, hR3, hB3⟩
  have hO := hO2.drawn hB3 hr0 hne2
  have HX := hid hx
  clear hR2 hR3 hB3 hO2 hne2 hx
  have hG := hF
  (try simp only [World.size_alloc1, World.size_drew, Nat.reduceAdd] at hO); (try simp only [upd, updI, List.map_cons, List.map_nil, eq_self, if_true, if_false, reduceIte, Nat.add_eq_left, Nat.left_eq_add, Nat.reduceEqDiff, List.set_cons_zero, List.set_cons_succ, hG] at hO); clear hG
  clear hF
  have hF := hO; (try simp only [Own, Item.Holds, apartI, CellsAt, Nat.reduceAdd, Nat.zero_add, List.mem_cons, List.not_mem_nil, or_false, forall_eq_or_imp, forall_eq, ne_eq, false_imp_iff, implies_true, and_true] at hF)
  go_wp2
  apply own_end hO
  (repeat (first | (with_reducible exact hO) | (with_reducible apply Own.alloc) | (with_reducible apply Own.drew) | ((with_reducible apply Own.set_at); (focus (show _ ≤ _; omega)))))
  have hG := hF
  clear hF
  clear hO
  intro hO
  simp only [upd, updI, List.map_cons, List.map_nil, eq_self, if_true, if_false, reduceIte, List.set_cons_zero, List.set_cons_succ, hG] at hO
  clear hG
  refine own_ret (v := .tuple #[u, .agg #[.int .i64 mb, .int .i64 mu]]) hO ?_ rfl (fun hO => ⟨u, vs, mb, mu, HV.out, hl, HX.out, rfl, Own.sub (.cons_cons _ (.cons _ .slnil)) hO⟩)
  clear hO
  intro w4 hO
  have hF := hO; (try simp only [Own, Item.Holds, apartI, CellsAt, Nat.reduceAdd, Nat.zero_add, List.mem_cons, List.not_mem_nil, or_false, forall_eq_or_imp, forall_eq, ne_eq, false_imp_iff, implies_true, and_true] at hF)
  simp [results, Tryd.results26, go_sem, hF]

set_option maxHeartbeats 1000000 in
theorem DrawBarCount_any (v : Value) (n : Nat) (w : World) (hn : n ≤ maxLen) (h : BytesB w w.heap.size v n) :
    Calls Tryd.prog 33 #[v] w (DrewVm w) := by
  have hO := Own.start w
  have hF := True.intro
  go_enter Tryd.func33, Tryd.ntmps33
  go_wp2_with fail
  apply own_at hO
  (repeat (first | (with_reducible exact hO) | (with_reducible apply Own.alloc) | (with_reducible apply Own.drew) | ((with_reducible apply Own.set_at); (focus (show _ ≤ _; omega)))))
  intro hO1
  refine (DrawSplitBars_any v n _ hn (h.alloc _)).mono ?_
  rintro e w1 ⟨u, vs, mb, mu, hv, hl, hx, rfl, ho⟩
  have hlow := hO1.low
  have hO2 := (hO1.below ho.base).joinRow (ho.1.1 : w1.ownsRow _ 46 6 u vs.length (vcC vs)) hlow (fun x hx g hg => (hO1.lt x hx g hg).2)
  have HV := hid hv
  have HX := hid hx
  clear ho hO1 hO hv hx h hlow
  have hO := hO2
  clear hO2
  have hG := hF
  (try simp only [World.size_alloc1, World.size_drew, Nat.reduceAdd] at hO); (try simp only [upd, updI, List.map_cons, List.map_nil, eq_self, if_true, if_false, reduceIte, Nat.add_eq_left, Nat.left_eq_add, Nat.reduceEqDiff, List.set_cons_zero, List.set_cons_succ, hG] at hO); clear hG
  clear hF
  have hF := hO; (try simp only [Own, Item.Holds, apartI, CellsAt, Nat.reduceAdd, Nat.zero_add, List.mem_cons, List.not_mem_nil, or_false, forall_eq_or_imp, forall_eq, ne_eq, false_imp_iff, implies_true, and_true] at hF)
  go_wp2
  apply own_end hO
  (repeat (first | (with_reducible exact hO) | (with_reducible apply Own.alloc) | (with_reducible apply Own.drew) | ((with_reducible apply Own.set_at); (focus (show _ ≤ _; omega)))))
  have hG := hF
  clear hF
  clear hO
  intro hO
  simp only [upd, updI, List.map_cons, List.map_nil, eq_self, if_true, if_false, reduceIte, List.set_cons_zero, List.set_cons_succ, hG] at hO
  clear hG
  refine own_ret (v := .tuple #[u, .agg #[.int .i64 mb, .int .i64 mu]]) hO ?_ rfl (fun hO => ⟨u, vs, mb, mu, HV.out, hl, HX.out, rfl, Own.sub (.cons_cons _ (.cons _ .slnil)) hO⟩)
  clear hO
  intro w4 hO
  have hF := hO; (try simp only [Own, Item.Holds, apartI, CellsAt, Nat.reduceAdd, Nat.zero_add, List.mem_cons, List.not_mem_nil, or_false, forall_eq_or_imp, forall_eq, ne_eq, false_imp_iff, implies_true, and_true] at hF)
  simp [results, Tryd.results33, go_sem, hF]

set_option maxHeartbeats 1000000 in
theorem DrawFillBar_any (v : Value) (n : Nat) (w : World) (hn : n ≤ maxLen) (h : BytesB w w.heap.size v n) :
    Calls Tryd.prog 36 #[v] w (DrewVm w) := by
  have hO := Own.start w
  have hF := True.intro
  go_enter Tryd.func36, Tryd.ntmps36
  go_wp2_with fail
  apply own_at hO
  (repeat (first | (with_reducible exact hO) | (with_reducible apply Own.alloc) | (with_reducible apply Own.drew) | ((with_reducible apply Own.set_at); (focus (show _ ≤ _; omega)))))
  intro hO1
  refine (DrawSplitBars_any v n _ hn (h.alloc _)).mono ?_
  rintro e w1 ⟨u, vs, mb, mu, hv, hl, hx, rfl, ho⟩
  have hlow := hO1.low
  have hO2 := (hO1.below ho.base).joinRow (ho.1.1 : w1.ownsRow _ 46 6 u vs.length (vcC vs)) hlow (fun x hx g hg => (hO1.lt x hx g hg).2)
  have HV := hid hv
  have HX := hid hx
  clear ho hO1 hO hv hx h hlow
  have hO := hO2
  clear hO2
  have hG := hF
  (try simp only [World.size_alloc1, World.size_drew, Nat.reduceAdd] at hO); (try simp only [upd, updI, List.map_cons, List.map_nil, eq_self, if_true, if_false, reduceIte, Nat.add_eq_left, Nat.left_eq_add, Nat.reduceEqDiff, List.set_cons_zero, List.set_cons_succ, hG] at hO); clear hG
  clear hF
  have hF := hO; (try simp only [Own, Item.Holds, apartI, CellsAt, Nat.reduceAdd, Nat.zero_add, List.mem_cons, List.not_mem_nil, or_false, forall_eq_or_imp, forall_eq, ne_eq, false_imp_iff, implies_true, and_true] at hF)
  go_wp2
  apply own_end hO
  (repeat (first | (with_reducible exact hO) | (with_reducible apply Own.alloc) | (with_reducible apply Own.drew) | ((with_reducible apply Own.set_at); (focus (show _ ≤ _; omega)))))
  have hG := hF
  clear hF
  clear hO
  intro hO
  simp only [upd, updI, List.map_cons, List.map_nil, eq_self, if_true, if_false, reduceIte, List.set_cons_zero, List.set_cons_succ, hG] at hO
  clear hG
  refine own_ret (v := .tuple #[u, .agg #[.int .i64 mb, .int .i64 mu]]) hO ?_ rfl (fun hO => ⟨u, vs, mb, mu, HV.out, hl, HX.out, rfl, Own.sub (.cons_cons _ (.cons _ .slnil)) hO⟩)
  clear hO
  intro w4 hO
  have hF := hO; (try simp only [Own, Item.Holds, apartI, CellsAt, Nat.reduceAdd, Nat.zero_add, List.mem_cons, List.not_mem_nil, or_false, forall_eq_or_imp, forall_eq, ne_eq, false_imp_iff, implies_true, and_true] at hF)
  simp [results, Tryd.results36, go_sem, hF]

end Go.Proofs.YtcifmpjefhichaaDoor
