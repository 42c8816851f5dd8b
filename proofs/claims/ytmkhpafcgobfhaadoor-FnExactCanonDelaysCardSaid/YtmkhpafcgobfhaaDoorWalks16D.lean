/- Chapter 16 in the program: dissonances at a meeting; the iterator over meetings is handed back. -/
import Derived.Test.YtmkhpafcgobfhaaDoorPure16P
import Derived.Test.YtmkhpafcgobfhaaDoorWalksHu
import Derived.Test.YtmkhpafcgobfhaaDoorWalks1
import Derived.Test.YtmkhpafcgobfhaaDoorRegionD
namespace Go.Proofs.YtmkhpafcgobfhaaDoor
set_option linter.unusedSimpArgs false
set_option linter.unusedVariables false
set_option maxRecDepth 8000
open Go.RowKit

theorem keyI16 {x : Nt} {z : Int} (h : keyZ x.s x.a x.o = z) (W : World) (ht : TabH W) : Calls Tryd.prog 61 #[.agg #[.int .i64 x.s, .int .i64 x.a, .int .i64 x.o]] W fun e w' => e = .returned (.int .i64 z) ∧ Below W.heap.size W w' := by
  subst h; exact keyI_any x.s x.a x.o W ht
theorem key_bd16 {x : Nt} (hv : nvB x = true) : -2 ≤ keyZ x.s x.a x.o ∧ keyZ x.s x.a x.o ≤ 109 := by
  have hp := (nvB_iff.1 hv).2.2
  obtain ⟨⟨h1, h2⟩, ⟨h3, h4⟩, ⟨h5, h6⟩⟩ := pvB_iff.1 hp
  have := halZ_bd x.s
  rw [keyZ, if_pos hp, natZ_os h1 h2]
  omega
theorem key_any16 (s a o : Int) : -100 ≤ keyZ s a o ∧ keyZ s a o ≤ 109 := by
  cases hp : pvB s a o
  · rw [keyZ, hp, if_neg (by decide)]; omega
  · obtain ⟨⟨h1, h2⟩, ⟨h3, h4⟩, ⟨h5, h6⟩⟩ := pvB_iff.1 hp
    have := halZ_bd s
    rw [keyZ, if_pos hp, natZ_os h1 h2]
    omega
theorem m12_16 {m : Int} (h0 : 0 ≤ m) (h1 : m < 12) : m = 0 ∨ m = 1 ∨ m = 2 ∨ m = 3 ∨ m = 4 ∨ m = 5 ∨ m = 6 ∨ m = 7 ∨ m = 8 ∨ m = 9 ∨ m = 10 ∨ m = 11 := by omega

set_option maxHeartbeats 4000000 in
theorem hasI16 {m : Int} {b : Bool} (h0 : 0 ≤ m) (h1 : m < 12) (hb : dsB16 m = b) (W : World) :
    Calls Tryd.prog 85 #[.int .u16 3174, .int .i64 m] W fun e w' => e = .returned (.bool b) ∧ Below W.heap.size W w' := by
  have hO := Own.start W
  have hF := True.intro
  rcases m12_16 h0 h1 with h | h | h | h | h | h | h | h | h | h | h | h <;> subst h <;> subst hb
  all_goals
    clear h0 h1
    go_enter Tryd.func85, Tryd.ntmps85
    go_wp2
    go_ret
    exact ⟨rfl, Own.base (by first | exact hO | (repeat (first | (with_reducible exact hO) | (with_reducible apply Own.alloc) | (with_reducible apply Own.drew) | ((with_reducible apply Own.set_at); (focus (show _ ≤ _; omega))))))⟩

set_option maxRecDepth 20000 in
set_option maxHeartbeats 8000000 in
theorem diI_any (m : Mee) (w : World) (ht : TabH w) :
    Calls Tryd.prog 56 #[.agg #[.int .i64 m.t, .bool m.x.r, .int .i64 m.x.s, .int .i64 m.x.a, .int .i64 m.x.o, .int .i64 m.x.t, .bool m.x.y, .bool m.y.r, .int .i64 m.y.s, .int .i64 m.y.a, .int .i64 m.y.o, .int .i64 m.y.t, .bool m.y.y]] w
      fun e w' => e = .returned (.bool (disB m)) ∧ Below w.heap.size w w' := by
  have hO := Own.start w
  have hF := True.intro
  obtain ⟨t, x, y⟩ := m
  dsimp only
  obtain ⟨b, hb⟩ : ∃ b, disB ⟨t, x, y⟩ = b := ⟨_, rfl⟩
  rw [hb]
  have HT := hid ht
  clear ht
  cases h1 : x.r
  · cases h2 : y.r
    · have kx := key_any16 x.s x.a x.o
      have ky := key_any16 y.s y.a y.o
      obtain ⟨p, hp⟩ : ∃ p, keyZ x.s x.a x.o = p := ⟨_, rfl⟩
      obtain ⟨q, hq⟩ : ∃ p, keyZ y.s y.a y.o = p := ⟨_, rfl⟩
      have hb2 : dsB16 ((max (p - q) (q - p)) % 12) = b := by
        rw [← hb]
        unfold disB
        dsimp only
        rw [h1, h2, hp, hq]
        rfl
      rw [hp] at kx
      rw [hq] at ky
      have HX := hid (fun W (hW : Below w.heap.size w W) => keyI16 hp W (HT.out.below hW))
      have HY := hid (fun W (hW : Below w.heap.size w W) => keyI16 hq W (HT.out.below hW))
      obtain ⟨lo, hlo⟩ : ∃ l, min p q = l := ⟨_, rfl⟩
      obtain ⟨hi, hhi⟩ : ∃ l, max p q = l := ⟨_, rfl⟩
      obtain ⟨z, hz⟩ : ∃ z, (max (p - q) (q - p)) % 12 = z := ⟨_, rfl⟩
      rw [hz] at hb2
      have HU := hid (fun W => huI_is (p := lo) (q := hi) (z := z) (by omega) (by omega) (by omega) (by omega) (by omega) W)
      have HH := hid (fun W => hasI16 (m := z) (by omega) (by omega) hb2 W)
      have HP := hid (And.intro hlo hhi)
      clear hb hp hq hb2 hz hlo hhi
      go_enter Tryd.func56, Tryd.ntmps56
      go_wp2_with fail
      apply own_code hO
      (repeat (first | (with_reducible exact hO) | (with_reducible apply Own.alloc) | (with_reducible apply Own.drew) | ((with_reducible apply Own.set_at); (focus (show _ ≤ _; omega)))))
      have hG := hF; clear hF; clear hO; intro hO
      (try simp only [World.size_alloc1, World.size_drew, Nat.reduceAdd] at hO); (try simp only [upd, updI, List.map_cons, List.map_nil, eq_self, if_true, if_false, reduceIte, Nat.add_eq_left, Nat.left_eq_add, Nat.reduceEqDiff, List.set_cons_zero, List.set_cons_succ, hG] at hO); clear hG
      refine region_own (X := fun _ => True) [] (by kernel_rfl) (hO) (trivial) (by first | exact XStab.true | exact XStab.rd | exact XStab.rdIf) ?_
      clear hO
      refine Sim.sP (i := 0) (d := some 13) (h := ?_)
      refine Sim.sP (i := 1) (d := some 14) (h := ?_)
      refine Sim.sO (i := 2) (d := some 15) (v := ?_) (hy := ?_) (h := ?_)
      rotate_left
      · first | refine Or.inl ⟨by rfl, fun w hO => ?_⟩ | (refine Or.inr ⟨by rfl, ?_⟩; with_reducible rfl)
        first | done | (have hF := hO; (try simp only [Own, Item.Holds, apartI, CellsAt, Nat.reduceAdd, Nat.zero_add, List.mem_cons, List.not_mem_nil, or_false, forall_eq_or_imp, forall_eq, ne_eq, false_imp_iff, implies_true, and_true] at hF); refine Out.same ?_; go_simp; all_goals with_reducible rfl)
      refine Sim.sO (i := 3) (d := some 16) (v := ?_) (hy := ?_) (h := ?_)
      rotate_left
      · first | refine Or.inl ⟨by rfl, fun w hO => ?_⟩ | (refine Or.inr ⟨by rfl, ?_⟩; with_reducible rfl)
        first | done | (refine Out.call (f := 61) (args := ?_) ?_ ?_; rotate_left; (focus (go_simp; all_goals with_reducible rfl)); exact HX.out _ hO.base)
      refine Sim.sP (i := 4) (d := some 17) (h := ?_)
      refine Sim.sP (i := 5) (d := some 18) (h := ?_)
      refine Sim.sO (i := 6) (d := some 19) (v := ?_) (hy := ?_) (h := ?_)
      rotate_left
      · first | refine Or.inl ⟨by rfl, fun w hO => ?_⟩ | (refine Or.inr ⟨by rfl, ?_⟩; with_reducible rfl)
        first | done | (have hF := hO; (try simp only [Own, Item.Holds, apartI, CellsAt, Nat.reduceAdd, Nat.zero_add, List.mem_cons, List.not_mem_nil, or_false, forall_eq_or_imp, forall_eq, ne_eq, false_imp_iff, implies_true, and_true] at hF); refine Out.same ?_; go_simp; all_goals with_reducible rfl)
      refine Sim.sO (i := 7) (d := some 20) (v := ?_) (hy := ?_) (h := ?_)
      rotate_left
      · first | refine Or.inl ⟨by rfl, fun w hO => ?_⟩ | (refine Or.inr ⟨by rfl, ?_⟩; with_reducible rfl)
        first | done | (refine Out.call (f := 61) (args := ?_) ?_ ?_; rotate_left; (focus (go_simp; all_goals with_reducible rfl)); exact HY.out _ hO.base)
      refine Sim.sP (i := 8) (d := some 3) (h := ?_)
      refine Sim.sP (i := 9) (d := some 4) (h := ?_)
      refine Sim.done (by kernel_rfl) (fun w1 hO hX => ?_) _
      (try simp only [World.size_alloc1, World.size_drew, Nat.reduceAdd] at hO); (try simp only [upd, updI, List.map_cons, List.map_nil, eq_self, if_true, if_false, reduceIte, Nat.add_eq_left, Nat.left_eq_add, Nat.reduceEqDiff, List.set_cons_zero, List.set_cons_succ] at hO)
      have hF := hO; (try simp only [Own, Item.Holds, apartI, CellsAt, Nat.reduceAdd, Nat.zero_add, List.mem_cons, List.not_mem_nil, or_false, forall_eq_or_imp, forall_eq, ne_eq, false_imp_iff, implies_true, and_true] at hF)
      have hmin : (if q < p then q else p) = lo := by rw [← HP.out.1]; split <;> omega
      have hmax : (if p < q then q else p) = hi := by rw [← HP.out.2]; split <;> omega
      go_wp2_with (first | (go_at_call 86; apply own_at hO; (repeat (first | (with_reducible exact hO) | (with_reducible apply Own.alloc) | (with_reducible apply Own.drew) | ((with_reducible apply Own.set_at); (focus (show _ ≤ _; omega))))); have hG := hF; clear hF; clear hO; intro hO; refine own_call hO (fun hB => HU.out _) ?_; clear hO; intro w1 hO; (try simp only [World.size_alloc1, World.size_drew, Nat.reduceAdd] at hO); (try simp only [upd, updI, List.map_cons, List.map_nil, eq_self, if_true, if_false, reduceIte, Nat.add_eq_left, Nat.left_eq_add, Nat.reduceEqDiff, List.set_cons_zero, List.set_cons_succ, hG] at hO); clear hG; have hF := hO; (try simp only [Own, Item.Holds, apartI, CellsAt, Nat.reduceAdd, Nat.zero_add, List.mem_cons, List.not_mem_nil, or_false, forall_eq_or_imp, forall_eq, ne_eq, false_imp_iff, implies_true, and_true] at hF)) | (go_at_call 85; apply own_at hO; (repeat (first | (with_reducible exact hO) | (with_reducible apply Own.alloc) | (with_reducible apply Own.drew) | ((with_reducible apply Own.set_at); (focus (show _ ≤ _; omega))))); have hG := hF; clear hF; clear hO; intro hO; refine own_call hO (fun hB => HH.out _) ?_; clear hO; intro w1 hO; (try simp only [World.size_alloc1, World.size_drew, Nat.reduceAdd] at hO); (try simp only [upd, updI, List.map_cons, List.map_nil, eq_self, if_true, if_false, reduceIte, Nat.add_eq_left, Nat.left_eq_add, Nat.reduceEqDiff, List.set_cons_zero, List.set_cons_succ, hG] at hO); clear hG; have hF := hO; (try simp only [Own, Item.Holds, apartI, CellsAt, Nat.reduceAdd, Nat.zero_add, List.mem_cons, List.not_mem_nil, or_false, forall_eq_or_imp, forall_eq, ne_eq, false_imp_iff, implies_true, and_true] at hF)))
      all_goals go_ret
      all_goals exact ⟨rfl, Own.base (by first | exact hO | (repeat (first | (with_reducible exact hO) | (with_reducible apply Own.alloc) | (with_reducible apply Own.drew) | ((with_reducible apply Own.set_at); (focus (show _ ≤ _; omega))))))⟩
    · have hb2 : false = b := by rw [← hb]; unfold disB; dsimp only; rw [h2]; simp
      subst hb2
      clear hb
      go_enter Tryd.func56, Tryd.ntmps56
      go_wp2
      go_ret
      exact ⟨rfl, Own.base (by first | exact hO | (repeat (first | (with_reducible exact hO) | (with_reducible apply Own.alloc) | (with_reducible apply Own.drew) | ((with_reducible apply Own.set_at); (focus (show _ ≤ _; omega))))))⟩
  · have hb2 : false = b := by rw [← hb]; unfold disB; dsimp only; rw [h1]; simp
    subst hb2
    clear hb
    go_enter Tryd.func56, Tryd.ntmps56
    go_wp2
    go_ret
    exact ⟨rfl, Own.base (by first | exact hO | (repeat (first | (with_reducible exact hO) | (with_reducible apply Own.alloc) | (with_reducible apply Own.drew) | ((with_reducible apply Own.set_at); (focus (show _ ≤ _; omega))))))⟩
end Go.Proofs.YtmkhpafcgobfhaaDoor
