/- l20Note: a note is drawn. -/
import Derived.Test.YtcgcnkddgihkpaaDoorWalksNS
import Derived.Test.YtcgcnkddgihkpaaDoorDrawBase
import Derived.Test.YtcgcnkddgihkpaaDoorOwn
import Derived.Deep.CutRange
import Derived.Deep.DeepCutAuto
namespace Go.Proofs.YtcgcnkddgihkpaaDoor
set_option linter.unusedSimpArgs false
set_option linter.unusedVariables false
set_option maxRecDepth 8000
open Go.RowKit

/-- What is known of a note that is drawn. -/
def ntOk (x : Nt) : Prop := (-1 ≤ x.s ∧ x.s ≤ 7) ∧ (-3 ≤ x.a ∧ x.a ≤ 3) ∧ (-1 ≤ x.o ∧ x.o ≤ 9) ∧ (0 ≤ x.t ∧ x.t ≤ 769)
/-- The six cells of a note, as the walk writes them. -/
abbrev ntL (r : Bool) (s a o t : Int) (y : Bool) : List Value := [.bool r, .int .i64 s, .int .i64 a, .int .i64 o, .int .i64 t, .bool y]
/-- What drawing a note leaves. -/
def DrewNt (r : Nat) (P : Int) (w : World) (e : Ending) (w' : World) : Prop :=
  ∃ x : Nt, ntOk x ∧ e = .returned (.agg #[.bool x.r, .int .i64 x.s, .int .i64 x.a, .int .i64 x.o, .int .i64 x.t, .bool x.y]) ∧ Rd w' r (P + 40) ∧ ButR r w w'

set_option maxHeartbeats 8000000 in
theorem l20Note_any (r : Nat) (P n : Int) (w : World) (h : Rd w r P) (hP : P ≤ 800000) (n0 : 0 ≤ n) (n1 : n ≤ 1000000) :
    Calls Tryd.prog 76 #[.pointer (some ⟨r, 0, none⟩), .int .i64 n] w (DrewNt r P w) := by
  have hr0 := h.lt
  have hO := Own.startD h
  have hF := True.intro
  clear h
  go_enter Tryd.func76, Tryd.ntmps76
  go_upto_region 2 with (first | (go_at_call 95; apply own_at hO; (repeat (first | (with_reducible exact hO) | (with_reducible apply Own.alloc) | (with_reducible apply Own.drew) | ((with_reducible apply Own.set_at); (focus (show _ ≤ _; omega))))); have hG := hF; clear hF; clear hO; intro hO; refine own_pitch hO hr0 (by omega) (by omega) (by omega) ?_; clear hO; intro s a o w1 hs ha ho hO; (try simp only [World.size_alloc1, World.size_drew, Nat.reduceAdd] at hO); (try simp only [upd, updI, List.map_cons, List.map_nil, eq_self, if_true, if_false, reduceIte, Nat.add_eq_left, Nat.left_eq_add, Nat.reduceEqDiff, List.set_cons_zero, List.set_cons_succ, hG] at hO); clear hG; have hF := hO; (try simp only [Own, Item.Holds, apartI, CellsAt, Nat.reduceAdd, Nat.zero_add, List.mem_cons, List.not_mem_nil, or_false, forall_eq_or_imp, forall_eq, ne_eq, false_imp_iff, implies_true, and_true] at hF)) | (go_at_call 51; apply own_at hO; (repeat (first | (with_reducible exact hO) | (with_reducible apply Own.alloc) | (with_reducible apply Own.drew) | ((with_reducible apply Own.set_at); (focus (show _ ≤ _; omega))))); have hG := hF; clear hF; clear hO; intro hO; refine own_pick (k := 7) hO hr0 (by omega) (by omega) (by omega) ?_; clear hO; intro x w1 x0 x1 hO; (try simp only [World.size_alloc1, World.size_drew, Nat.reduceAdd] at hO); (try simp only [upd, updI, List.map_cons, List.map_nil, eq_self, if_true, if_false, reduceIte, Nat.add_eq_left, Nat.left_eq_add, Nat.reduceEqDiff, List.set_cons_zero, List.set_cons_succ, hG] at hO); clear hG; have hF := hO; (try simp only [Own, Item.Holds, apartI, CellsAt, Nat.reduceAdd, Nat.zero_add, List.mem_cons, List.not_mem_nil, or_false, forall_eq_or_imp, forall_eq, ne_eq, false_imp_iff, implies_true, and_true] at hF); obtain ⟨t, ht, hc⟩ := hO.num_in (lo := 12) (hi := 96) (x := x) [12, 24, 48, 96, 36, 16, 72] List.mem_cons_self x0 (by simpa using x1) (by decide)))
  (apply own_code hO; (repeat (first | (with_reducible exact hO) | (with_reducible apply Own.alloc) | (with_reducible apply Own.drew) | ((with_reducible apply Own.set_at); (focus (show _ ≤ _; omega))))); have hG := hF; clear hF; clear hO; intro hO; (try simp only [World.size_alloc1, World.size_drew, Nat.reduceAdd] at hO); (try simp only [upd, updI, List.map_cons, List.map_nil, eq_self, if_true, if_false, reduceIte, Nat.add_eq_left, Nat.left_eq_add, Nat.reduceEqDiff, List.set_cons_zero, List.set_cons_succ, hG] at hO); clear hG; have hF := hO; (try simp only [Own, Item.Holds, apartI, CellsAt, Nat.reduceAdd, Nat.zero_add, List.mem_cons, List.not_mem_nil, or_false, forall_eq_or_imp, forall_eq, ne_eq, false_imp_iff, implies_true, and_true] at hF))
  replace hO := Own.sub (.cons_cons _ (.cons _ (.cons_cons _ .slnil))) hO
  obtain ⟨q, hq⟩ : ∃ q, w1.heap.size = q := ⟨_, rfl⟩
  rw [hq] at hO ⊢
  clear hF
  have hF := hO; (try simp only [Own, Item.Holds, apartI, CellsAt, Nat.reduceAdd, Nat.zero_add, List.mem_cons, List.not_mem_nil, or_false, forall_eq_or_imp, forall_eq, ne_eq, false_imp_iff, implies_true, and_true] at hF)
  go_upto_if 16 with (go_at_call 51; apply own_at hO; (repeat (first | (with_reducible exact hO) | (with_reducible apply Own.alloc) | (with_reducible apply Own.drew) | ((with_reducible apply Own.set_at); (focus (show _ ≤ _; omega))))); have hG := hF; clear hF; clear hO; intro hO; refine own_pick (k := 14) hO hr0 (by omega) (by omega) (by omega) ?_; clear hO; intro x w1 x0 x1 hO; (try simp only [World.size_alloc1, World.size_drew, Nat.reduceAdd] at hO); (try simp only [upd, updI, List.map_cons, List.map_nil, eq_self, if_true, if_false, reduceIte, Nat.add_eq_left, Nat.left_eq_add, Nat.reduceEqDiff, List.set_cons_zero, List.set_cons_succ, hG] at hO); clear hG; have hF := hO; (try simp only [Own, Item.Holds, apartI, CellsAt, Nat.reduceAdd, Nat.zero_add, List.mem_cons, List.not_mem_nil, or_false, forall_eq_or_imp, forall_eq, ne_eq, false_imp_iff, implies_true, and_true] at hF))
  go_cut [5] (fun s5 wx => s5 = .pointer (some ⟨q, 0, none⟩) ∧ ∃ x : Nt, ntOk x ∧ Own w.heap.size (Bd r w (P + 24)) wx [.blk q (ntL x.r x.s x.a x.o x.t x.y), .blk w.heap.size (ntL false 0 0 0 0 false)])
  case first =>
    go_wp2_with (go_at_call 51; apply own_at hO; (repeat (first | (with_reducible exact hO) | (with_reducible apply Own.alloc) | (with_reducible apply Own.drew) | ((with_reducible apply Own.set_at); (focus (show _ ≤ _; omega))))); have hG := hF; clear hF; clear hO; intro hO; refine own_pick (k := 3) hO hr0 (by omega) (by omega) (by omega) ?_; clear hO; intro x w1 x0 x1 hO; (try simp only [World.size_alloc1, World.size_drew, Nat.reduceAdd] at hO); (try simp only [upd, updI, List.map_cons, List.map_nil, eq_self, if_true, if_false, reduceIte, Nat.add_eq_left, Nat.left_eq_add, Nat.reduceEqDiff, List.set_cons_zero, List.set_cons_succ, hG] at hO); clear hG; have hF := hO; (try simp only [Own, Item.Holds, apartI, CellsAt, Nat.reduceAdd, Nat.zero_add, List.mem_cons, List.not_mem_nil, or_false, forall_eq_or_imp, forall_eq, ne_eq, false_imp_iff, implies_true, and_true] at hF); obtain ⟨u, hu, hc⟩ := hO.num_in (lo := 0) (hi := 769) (x := x) [1, 768, 700] List.mem_cons_self x0 (by simpa using x1) (by decide))
    · go_meet
      replace hO := hO.mono (Q := P + 24) hr0 (by omega)
      replace hO := Own.sub (.cons _ (.cons_cons _ (.cons_cons _ .slnil))) hO
      exact ⟨rfl, ⟨false, s, a, o, u, false⟩, ⟨hs, ha, ho, hu⟩, by (apply Own.cast; (focus ((repeat (first | (with_reducible exact hO) | (with_reducible apply Own.alloc) | (with_reducible apply Own.drew) | ((with_reducible apply Own.set_at); (focus (show _ ≤ _; omega))))))); (first | rfl | (simp only [upd, updI, List.map_cons, List.map_nil, eq_self, if_true, if_false, reduceIte, Nat.add_eq_left, Nat.left_eq_add, Nat.reduceEqDiff, List.set_cons_zero, List.set_cons_succ, hF]; done) | (simp [upd, updI, List.map_cons, List.map_nil, eq_self, if_true, if_false, reduceIte, Nat.add_eq_left, Nat.left_eq_add, Nat.reduceEqDiff, List.set_cons_zero, List.set_cons_succ, hF]; done)))⟩
    · go_meet
      replace hO := hO.mono (Q := P + 24) hr0 (by omega)
      exact ⟨rfl, ⟨false, s, a, o, t, false⟩, ⟨hs, ha, ho, by simp only; omega⟩, hO⟩
  case rest =>
    clear hO hF hs ha ho ht
    obtain ⟨rfl, ⟨xr, xs, xa, xo, xt, xy⟩, ⟨b0, b1, b2, b3⟩, hO⟩ := hcut
    simp only at b0 b1 b2 b3 hO
    have hF := hO; (try simp only [Own, Item.Holds, apartI, CellsAt, Nat.reduceAdd, Nat.zero_add, List.mem_cons, List.not_mem_nil, or_false, forall_eq_or_imp, forall_eq, ne_eq, false_imp_iff, implies_true, and_true] at hF)
    go_upto_if 25 with (go_at_call 51; apply own_at hO; (repeat (first | (with_reducible exact hO) | (with_reducible apply Own.alloc) | (with_reducible apply Own.drew) | ((with_reducible apply Own.set_at); (focus (show _ ≤ _; omega))))); have hG := hF; clear hF; clear hO; intro hO; refine own_pick (k := 5) hO hr0 (by omega) (by omega) (by omega) ?_; clear hO; intro x w1 x0 x1 hO; (try simp only [World.size_alloc1, World.size_drew, Nat.reduceAdd] at hO); (try simp only [upd, updI, List.map_cons, List.map_nil, eq_self, if_true, if_false, reduceIte, Nat.add_eq_left, Nat.left_eq_add, Nat.reduceEqDiff, List.set_cons_zero, List.set_cons_succ, hG] at hO); clear hG; have hF := hO; (try simp only [Own, Item.Holds, apartI, CellsAt, Nat.reduceAdd, Nat.zero_add, List.mem_cons, List.not_mem_nil, or_false, forall_eq_or_imp, forall_eq, ne_eq, false_imp_iff, implies_true, and_true] at hF))
    go_cut [5] (fun s5 wx => s5 = .pointer (some ⟨q, 0, none⟩) ∧ ∃ x : Nt, ntOk x ∧ Own w.heap.size (Bd r w (P + 26)) wx [.blk q (ntL x.r x.s x.a x.o x.t x.y), .blk w.heap.size (ntL false 0 0 0 0 false)])
    case first =>
      go_wp2_with fail
      · go_meet
        replace hO := hO.mono (Q := P + 26) hr0 (by omega)
        exact ⟨rfl, ⟨true, 0, 0, 0, xt, xy⟩, ⟨by simp only; omega, by simp only; omega, by simp only; omega, b3⟩, by (apply Own.cast; (focus ((repeat (first | (with_reducible exact hO) | (with_reducible apply Own.alloc) | (with_reducible apply Own.drew) | ((with_reducible apply Own.set_at); (focus (show _ ≤ _; omega))))))); (first | rfl | (simp only [upd, updI, List.map_cons, List.map_nil, eq_self, if_true, if_false, reduceIte, Nat.add_eq_left, Nat.left_eq_add, Nat.reduceEqDiff, List.set_cons_zero, List.set_cons_succ, hF]; done) | (simp [upd, updI, List.map_cons, List.map_nil, eq_self, if_true, if_false, reduceIte, Nat.add_eq_left, Nat.left_eq_add, Nat.reduceEqDiff, List.set_cons_zero, List.set_cons_succ, hF]; done)))⟩
      · go_meet
        replace hO := hO.mono (Q := P + 26) hr0 (by omega)
        exact ⟨rfl, ⟨xr, xs, xa, xo, xt, xy⟩, ⟨b0, b1, b2, b3⟩, hO⟩
    case rest =>
      clear hO hF b0 b1 b2 b3
      obtain ⟨rfl, ⟨xr, xs, xa, xo, xt, xy⟩, ⟨b0, b1, b2, b3⟩, hO⟩ := hcut
      simp only at b0 b1 b2 b3 hO
      have hF := hO; (try simp only [Own, Item.Holds, apartI, CellsAt, Nat.reduceAdd, Nat.zero_add, List.mem_cons, List.not_mem_nil, or_false, forall_eq_or_imp, forall_eq, ne_eq, false_imp_iff, implies_true, and_true] at hF)
      go_upto_if 31 with (go_at_call 77; apply own_at hO; (repeat (first | (with_reducible exact hO) | (with_reducible apply Own.alloc) | (with_reducible apply Own.drew) | ((with_reducible apply Own.set_at); (focus (show _ ≤ _; omega))))); have hG := hF; clear hF; clear hO; intro hO; refine own_odd hO hr0 (by omega) (by omega) (by omega) ?_; clear hO; intro x w1 hO; (try simp only [World.size_alloc1, World.size_drew, Nat.reduceAdd] at hO); (try simp only [upd, updI, List.map_cons, List.map_nil, eq_self, if_true, if_false, reduceIte, Nat.add_eq_left, Nat.left_eq_add, Nat.reduceEqDiff, List.set_cons_zero, List.set_cons_succ, hG] at hO); clear hG; have hF := hO; (try simp only [Own, Item.Holds, apartI, CellsAt, Nat.reduceAdd, Nat.zero_add, List.mem_cons, List.not_mem_nil, or_false, forall_eq_or_imp, forall_eq, ne_eq, false_imp_iff, implies_true, and_true] at hF))
      go_cut [5] (fun s5 wx => s5 = .pointer (some ⟨q, 0, none⟩) ∧ ∃ x : Nt, ntOk x ∧ Own w.heap.size (Bd r w (P + 30)) wx [.blk q (ntL x.r x.s x.a x.o x.t x.y), .blk w.heap.size (ntL false 0 0 0 0 false)])
      case first =>
        cases x
        · go_wp2_with fail
          go_meet
          replace hO := hO.mono (Q := P + 30) hr0 (by omega)
          exact ⟨rfl, ⟨xr, xs, xa, xo, xt, xy⟩, ⟨b0, b1, b2, b3⟩, hO⟩
        · go_wp2_with fail
          (go_at_call 51; apply own_at hO; (repeat (first | (with_reducible exact hO) | (with_reducible apply Own.alloc) | (with_reducible apply Own.drew) | ((with_reducible apply Own.set_at); (focus (show _ ≤ _; omega))))); have hG := hF; clear hF; clear hO; intro hO; refine own_pick (k := 4) hO hr0 (by omega) (by omega) (by omega) ?_; clear hO; intro x w1 x0 x1 hO; (try simp only [World.size_alloc1, World.size_drew, Nat.reduceAdd] at hO); (try simp only [upd, updI, List.map_cons, List.map_nil, eq_self, if_true, if_false, reduceIte, Nat.add_eq_left, Nat.left_eq_add, Nat.reduceEqDiff, List.set_cons_zero, List.set_cons_succ, hG] at hO); clear hG; have hF := hO; (try simp only [Own, Item.Holds, apartI, CellsAt, Nat.reduceAdd, Nat.zero_add, List.mem_cons, List.not_mem_nil, or_false, forall_eq_or_imp, forall_eq, ne_eq, false_imp_iff, implies_true, and_true] at hF))
          rcases (show x = 0 ∨ x = 1 ∨ x = 2 ∨ x = 3 by omega) with rfl | rfl | rfl | rfl
          · clear x0 x1
            go_wp2_with (go_at_call 51; apply own_at hO; (repeat (first | (with_reducible exact hO) | (with_reducible apply Own.alloc) | (with_reducible apply Own.drew) | ((with_reducible apply Own.set_at); (focus (show _ ≤ _; omega))))); have hG := hF; clear hF; clear hO; intro hO; refine own_pick (k := 2) hO hr0 (by omega) (by omega) (by omega) ?_; clear hO; intro x w1 x0 x1 hO; (try simp only [World.size_alloc1, World.size_drew, Nat.reduceAdd] at hO); (try simp only [upd, updI, List.map_cons, List.map_nil, eq_self, if_true, if_false, reduceIte, Nat.add_eq_left, Nat.left_eq_add, Nat.reduceEqDiff, List.set_cons_zero, List.set_cons_succ, hG] at hO); clear hG; have hF := hO; (try simp only [Own, Item.Holds, apartI, CellsAt, Nat.reduceAdd, Nat.zero_add, List.mem_cons, List.not_mem_nil, or_false, forall_eq_or_imp, forall_eq, ne_eq, false_imp_iff, implies_true, and_true] at hF); obtain ⟨u, hu, hc⟩ := hO.num_in (lo := 0) (hi := 769) (x := x) [0, 769] List.mem_cons_self x0 (by simpa using x1) (by decide))
            go_meet
            replace hO := hO.mono (Q := P + 30) hr0 (by omega)
            replace hO := Own.sub (.cons _ (.cons_cons _ (.cons_cons _ .slnil))) hO
            exact ⟨rfl, ⟨xr, xs, xa, xo, u, xy⟩, ⟨b0, b1, b2, hu⟩, by (apply Own.cast; (focus ((repeat (first | (with_reducible exact hO) | (with_reducible apply Own.alloc) | (with_reducible apply Own.drew) | ((with_reducible apply Own.set_at); (focus (show _ ≤ _; omega))))))); (first | rfl | (simp only [upd, updI, List.map_cons, List.map_nil, eq_self, if_true, if_false, reduceIte, Nat.add_eq_left, Nat.left_eq_add, Nat.reduceEqDiff, List.set_cons_zero, List.set_cons_succ, hF]; done) | (simp [upd, updI, List.map_cons, List.map_nil, eq_self, if_true, if_false, reduceIte, Nat.add_eq_left, Nat.left_eq_add, Nat.reduceEqDiff, List.set_cons_zero, List.set_cons_succ, hF]; done)))⟩
          · go_wp2_with fail
            go_meet
            replace hO := hO.mono (Q := P + 30) hr0 (by omega)
            exact ⟨rfl, ⟨true, xs, xa, xo, xt, true⟩, ⟨b0, b1, b2, b3⟩, by (apply Own.cast; (focus ((repeat (first | (with_reducible exact hO) | (with_reducible apply Own.alloc) | (with_reducible apply Own.drew) | ((with_reducible apply Own.set_at); (focus (show _ ≤ _; omega))))))); (first | rfl | (simp only [upd, updI, List.map_cons, List.map_nil, eq_self, if_true, if_false, reduceIte, Nat.add_eq_left, Nat.left_eq_add, Nat.reduceEqDiff, List.set_cons_zero, List.set_cons_succ, hF]; done) | (simp [upd, updI, List.map_cons, List.map_nil, eq_self, if_true, if_false, reduceIte, Nat.add_eq_left, Nat.left_eq_add, Nat.reduceEqDiff, List.set_cons_zero, List.set_cons_succ, hF]; done)))⟩
          · go_wp2_with fail
            go_meet
            replace hO := hO.mono (Q := P + 30) hr0 (by omega)
            exact ⟨rfl, ⟨xr, 7, xa, xo, xt, xy⟩, ⟨by simp only; omega, b1, b2, b3⟩, by (apply Own.cast; (focus ((repeat (first | (with_reducible exact hO) | (with_reducible apply Own.alloc) | (with_reducible apply Own.drew) | ((with_reducible apply Own.set_at); (focus (show _ ≤ _; omega))))))); (first | rfl | (simp only [upd, updI, List.map_cons, List.map_nil, eq_self, if_true, if_false, reduceIte, Nat.add_eq_left, Nat.left_eq_add, Nat.reduceEqDiff, List.set_cons_zero, List.set_cons_succ, hF]; done) | (simp [upd, updI, List.map_cons, List.map_nil, eq_self, if_true, if_false, reduceIte, Nat.add_eq_left, Nat.left_eq_add, Nat.reduceEqDiff, List.set_cons_zero, List.set_cons_succ, hF]; done)))⟩
          · go_wp2_with fail
            go_meet
            replace hO := hO.mono (Q := P + 30) hr0 (by omega)
            exact ⟨rfl, ⟨true, 1, 0, 0, xt, xy⟩, ⟨by simp only; omega, by simp only; omega, by simp only; omega, b3⟩, by (apply Own.cast; (focus ((repeat (first | (with_reducible exact hO) | (with_reducible apply Own.alloc) | (with_reducible apply Own.drew) | ((with_reducible apply Own.set_at); (focus (show _ ≤ _; omega))))))); (first | rfl | (simp only [upd, updI, List.map_cons, List.map_nil, eq_self, if_true, if_false, reduceIte, Nat.add_eq_left, Nat.left_eq_add, Nat.reduceEqDiff, List.set_cons_zero, List.set_cons_succ, hF]; done) | (simp [upd, updI, List.map_cons, List.map_nil, eq_self, if_true, if_false, reduceIte, Nat.add_eq_left, Nat.left_eq_add, Nat.reduceEqDiff, List.set_cons_zero, List.set_cons_succ, hF]; done)))⟩
      case rest =>
        clear hO hF b0 b1 b2 b3
        obtain ⟨rfl, ⟨xr, xs, xa, xo, xt, xy⟩, hb, hO⟩ := hcut
        simp only at hO
        have HB := hid hb
        clear hb
        have hF := hO; (try simp only [Own, Item.Holds, apartI, CellsAt, Nat.reduceAdd, Nat.zero_add, List.mem_cons, List.not_mem_nil, or_false, forall_eq_or_imp, forall_eq, ne_eq, false_imp_iff, implies_true, and_true] at hF)
        go_wp2_with fail
        apply own_end hO
        (repeat (first | (with_reducible exact hO) | (with_reducible apply Own.alloc) | (with_reducible apply Own.drew) | ((with_reducible apply Own.set_at); (focus (show _ ≤ _; omega)))))
        have hG := hF; clear hF; clear hO; intro hO
        refine own_ret (v := .agg #[.bool xr, .int .i64 xs, .int .i64 xa, .int .i64 xo, .int .i64 xt, .bool xy]) hO ?_ rfl (fun hO => ⟨⟨xr, xs, xa, xo, xt, xy⟩, HB.out, rfl, hO.base.2.mono (by omega), hO.base.1⟩)
        clear hO; intro w1 hO
        (try simp only [World.size_alloc1, World.size_drew, Nat.reduceAdd] at hO); (try simp only [upd, updI, List.map_cons, List.map_nil, eq_self, if_true, if_false, reduceIte, Nat.add_eq_left, Nat.left_eq_add, Nat.reduceEqDiff, List.set_cons_zero, List.set_cons_succ, hG] at hO); clear hG
        have hF := hO; (try simp only [Own, Item.Holds, apartI, CellsAt, Nat.reduceAdd, Nat.zero_add, List.mem_cons, List.not_mem_nil, or_false, forall_eq_or_imp, forall_eq, ne_eq, false_imp_iff, implies_true, and_true] at hF)
        simp [results, Tryd.results76, go_sem, hF]

theorem own_note {r : Nat} {w0 W : World} {P n : Int} {L : List Item} {K : Ending → World → Prop} (hO : Own w0.heap.size (Bd r w0 P) W L) (hr : r < w0.heap.size) (hP : P ≤ 800000) (n0 : 0 ≤ n) (n1 : n ≤ 1000000)
    (h : ∀ (x : Nt) w1, ntOk x → Own w0.heap.size (Bd r w0 (P + 40)) w1 L → K (.returned (.agg #[.bool x.r, .int .i64 x.s, .int .i64 x.a, .int .i64 x.o, .int .i64 x.t, .bool x.y])) w1) :
    Calls Tryd.prog 76 #[.pointer (some ⟨r, 0, none⟩), .int .i64 n] W K :=
  (l20Note_any r P n W hO.base.2 hP n0 n1).mono fun e w1 ⟨x, hx, he, hR, hb⟩ => by
    subst he
    exact h x w1 hx (hO.but hr (Stab.bd hr) ⟨hO.base.1.trans hb, hR⟩ hb)
end Go.Proofs.YtcgcnkddgihkpaaDoor
