/- Chapter 16 in the model: MeetTicks, MeetFault, CanonOf. -/
import Derived.Test.YtlbagckpmpdkiaaWalks16S
import Derived.Test.YtlbagckpmpdkiaaCon16
import Derived.Test.YtlbagckpmpdkiaaCon5H
import Derived.Test.YtlbagckpmpdkiaaRegionD
namespace Go.Proofs.Ytlbagckpmpdkiaa
set_option linter.unusedSimpArgs false
set_option linter.unusedVariables false
set_option maxRecDepth 8000
open Go.RowKit Go.Joins

theorem vo16 {va : Value} {v : List Nt} {n : Nat} {w : World} {z : Bool} (hl : v.length = n) (ha : SlAt w va n 6 (vcC v)) (hn : n ≤ 1048576) (h : voB v = z) (W : World) (hW : Below w.heap.size w W) :
    Calls Try.prog 13 #[va] W fun e w' => e = .returned (.bool z) ∧ Below W.heap.size W w' := by
  subst hl h; exact voS_any va v W (ha.below hW) hn

theorem on16 {va vb : Value} {a b : List Nt} {u : List Int} {n m k : Nat} {w : World} (h1 : a.length = n) (h2 : b.length = m) (ha : SlAt w va n 6 (vcC a)) (hb : SlAt w vb m 6 (vcC b)) (v1 : voB a = true) (v2 : voB b = true) (hu : onL a b (moZ a b) = u) (hk : u.length = k) (W : World) (hW : Below w.heap.size w W) :
    Calls Try.prog 14 #[va, vb] W (RowOut 3 1 k (intC u) W) := by
  subst h1 h2 hu hk; exact onS_any va vb a b W (ha.below hW) (hb.below hW) v1 v2

set_option maxRecDepth 20000 in
set_option maxHeartbeats 4000000 in
theorem mtS_any (va vb : Value) (a b : List Nt) (w : World) (ha : SlAt w va a.length 6 (vcC a)) (hb : SlAt w vb b.length 6 (vcC b)) (hn : a.length ≤ 1048576) (hm : b.length ≤ 1048576) :
    Calls Try.prog 5 #[va, vb] w (RowOut 3 1 (mtL a b).length (intC (mtL a b)) w) := by
  have hO := Own.start w
  have hF := True.intro
  obtain ⟨u, hu⟩ : ∃ u, mtL a b = u := ⟨_, rfl⟩
  obtain ⟨k, hk⟩ : ∃ k, u.length = k := ⟨_, rfl⟩
  rw [hu, hk]
  obtain ⟨A, ca, rfl, nb, _⟩ := ha.open
  obtain ⟨A', cb, rfl, mb, _⟩ := hb.open
  obtain ⟨x, hx⟩ : ∃ b, voB a = b := ⟨_, rfl⟩
  obtain ⟨y, hy⟩ : ∃ c, voB b = c := ⟨_, rfl⟩
  have HVA := hid (fun W (hW : Below w.heap.size w W) => vo16 rfl ha hn hx W hW)
  have HVB := hid (fun W (hW : Below w.heap.size w W) => vo16 rfl hb hm hy W hW)
  cases x
  · have HE := hid (show [] = u ∧ 0 = k by
      have : u = [] := by rw [← hu]; unfold mtL bvB; rw [hx]; rfl
      subst this; exact ⟨rfl, hk⟩)
    clear ha hb hx hy hu hk
    go_enter Try.func5, Try.ntmps5
    go_wp2_with (go_at_call 13; apply own_at hO; (repeat (first | (with_reducible exact hO) | (with_reducible apply Own.alloc) | (with_reducible apply Own.drew) | ((with_reducible apply Own.set_at); (focus (show _ ≤ _; omega))))); have hG := hF; clear hF; clear hO; intro hO; refine own_call hO (fun hB => HVA.out _ hB) ?_; clear hO; intro w1 hO; (try simp only [World.size_alloc1, World.size_drew, Nat.reduceAdd] at hO); (try simp only [upd, updI, List.map_cons, List.map_nil, eq_self, if_true, if_false, reduceIte, Nat.add_eq_left, Nat.left_eq_add, Nat.reduceEqDiff, List.set_cons_zero, List.set_cons_succ, hG] at hO); clear hG; have hF := hO; (try simp only [Own, Item.Holds, apartI, CellsAt, Nat.reduceAdd, Nat.zero_add, List.mem_cons, List.not_mem_nil, or_false, forall_eq_or_imp, forall_eq, ne_eq, false_imp_iff, implies_true, and_true] at hF))
    go_ret
    rw [← HE.out.1, ← HE.out.2]
    exact RowOut.mk (hO.allocRow (e := 3) (cur := #[]) (k := 0) (cap := 0) 1 (by omega) (by unfold maxLen; omega) rfl)
  · cases y
    · have HE := hid (show [] = u ∧ 0 = k by
        have : u = [] := by rw [← hu]; unfold mtL bvB; rw [hx, hy]; rfl
        subst this; exact ⟨rfl, hk⟩)
      obtain ⟨n, hn9⟩ : ∃ n, a.length = n := ⟨_, rfl⟩
      obtain ⟨m, hm9⟩ : ∃ n, b.length = n := ⟨_, rfl⟩
      rw [hn9] at HVA ⊢
      rw [hm9] at HVB ⊢
      clear ha hb hx hy hu hk hn9 hm9
      go_enter Try.func5, Try.ntmps5
      go_wp2_with fail
      (go_at_call 13; apply own_at hO; (repeat (first | (with_reducible exact hO) | (with_reducible apply Own.alloc) | (with_reducible apply Own.drew) | ((with_reducible apply Own.set_at); (focus (show _ ≤ _; omega))))); have hG := hF; clear hF; clear hO; intro hO; refine own_call hO (fun hB => HVA.out _ hB) ?_; clear hO; intro w1 hO; (try simp only [World.size_alloc1, World.size_drew, Nat.reduceAdd] at hO); (try simp only [upd, updI, List.map_cons, List.map_nil, eq_self, if_true, if_false, reduceIte, Nat.add_eq_left, Nat.left_eq_add, Nat.reduceEqDiff, List.set_cons_zero, List.set_cons_succ, hG] at hO); clear hG; have hF := hO; (try simp only [Own, Item.Holds, apartI, CellsAt, Nat.reduceAdd, Nat.zero_add, List.mem_cons, List.not_mem_nil, or_false, forall_eq_or_imp, forall_eq, ne_eq, false_imp_iff, implies_true, and_true] at hF))
      go_wp2_with (go_at_call 13; apply own_at hO; (repeat (first | (with_reducible exact hO) | (with_reducible apply Own.alloc) | (with_reducible apply Own.drew) | ((with_reducible apply Own.set_at); (focus (show _ ≤ _; omega))))); have hG := hF; clear hF; clear hO; intro hO; refine own_call hO (fun hB => HVB.out _ hB) ?_; clear hO; intro w1 hO; (try simp only [World.size_alloc1, World.size_drew, Nat.reduceAdd] at hO); (try simp only [upd, updI, List.map_cons, List.map_nil, eq_self, if_true, if_false, reduceIte, Nat.add_eq_left, Nat.left_eq_add, Nat.reduceEqDiff, List.set_cons_zero, List.set_cons_succ, hG] at hO); clear hG; have hF := hO; (try simp only [Own, Item.Holds, apartI, CellsAt, Nat.reduceAdd, Nat.zero_add, List.mem_cons, List.not_mem_nil, or_false, forall_eq_or_imp, forall_eq, ne_eq, false_imp_iff, implies_true, and_true] at hF))
      go_ret
      rw [← HE.out.1, ← HE.out.2]
      exact RowOut.mk (hO.allocRow (e := 3) (cur := #[]) (k := 0) (cap := 0) 1 (by omega) (by unfold maxLen; omega) rfl)
    · have HON := hid (fun W (hW : Below w.heap.size w W) => on16 rfl rfl ha hb hx hy (show onL a b (moZ a b) = u by rw [← hu]; unfold mtL bvB; rw [hx, hy]; rfl) hk W hW)
      obtain ⟨n, hn9⟩ : ∃ n, a.length = n := ⟨_, rfl⟩
      obtain ⟨m, hm9⟩ : ∃ n, b.length = n := ⟨_, rfl⟩
      rw [hn9] at HVA HON ⊢
      rw [hm9] at HVB HON ⊢
      clear ha hb hx hy hu hk hn9 hm9
      go_enter Try.func5, Try.ntmps5
      go_wp2_with fail
      (go_at_call 13; apply own_at hO; (repeat (first | (with_reducible exact hO) | (with_reducible apply Own.alloc) | (with_reducible apply Own.drew) | ((with_reducible apply Own.set_at); (focus (show _ ≤ _; omega))))); have hG := hF; clear hF; clear hO; intro hO; refine own_call hO (fun hB => HVA.out _ hB) ?_; clear hO; intro w1 hO; (try simp only [World.size_alloc1, World.size_drew, Nat.reduceAdd] at hO); (try simp only [upd, updI, List.map_cons, List.map_nil, eq_self, if_true, if_false, reduceIte, Nat.add_eq_left, Nat.left_eq_add, Nat.reduceEqDiff, List.set_cons_zero, List.set_cons_succ, hG] at hO); clear hG; have hF := hO; (try simp only [Own, Item.Holds, apartI, CellsAt, Nat.reduceAdd, Nat.zero_add, List.mem_cons, List.not_mem_nil, or_false, forall_eq_or_imp, forall_eq, ne_eq, false_imp_iff, implies_true, and_true] at hF))
      go_wp2_with fail
      (go_at_call 13; apply own_at hO; (repeat (first | (with_reducible exact hO) | (with_reducible apply Own.alloc) | (with_reducible apply Own.drew) | ((with_reducible apply Own.set_at); (focus (show _ ≤ _; omega))))); have hG := hF; clear hF; clear hO; intro hO; refine own_call hO (fun hB => HVB.out _ hB) ?_; clear hO; intro w1 hO; (try simp only [World.size_alloc1, World.size_drew, Nat.reduceAdd] at hO); (try simp only [upd, updI, List.map_cons, List.map_nil, eq_self, if_true, if_false, reduceIte, Nat.add_eq_left, Nat.left_eq_add, Nat.reduceEqDiff, List.set_cons_zero, List.set_cons_succ, hG] at hO); clear hG; have hF := hO; (try simp only [Own, Item.Holds, apartI, CellsAt, Nat.reduceAdd, Nat.zero_add, List.mem_cons, List.not_mem_nil, or_false, forall_eq_or_imp, forall_eq, ne_eq, false_imp_iff, implies_true, and_true] at hF))
      go_wp2_with (go_at_call 14; apply own_at hO; (repeat (first | (with_reducible exact hO) | (with_reducible apply Own.alloc) | (with_reducible apply Own.drew) | ((with_reducible apply Own.set_at); (focus (show _ ≤ _; omega))))); have hG := hF; clear hF; clear hO; intro hO; refine own_call_row hO (fun hB => HON.out _ hB) ?_; clear hO; intro v w1 hO; (try simp only [World.size_alloc1, World.size_drew, Nat.reduceAdd] at hO); (try simp only [upd, updI, List.map_cons, List.map_nil, eq_self, if_true, if_false, reduceIte, Nat.add_eq_left, Nat.left_eq_add, Nat.reduceEqDiff, List.set_cons_zero, List.set_cons_succ, hG] at hO); clear hG; have hF := hO; (try simp only [Own, Item.Holds, apartI, CellsAt, Nat.reduceAdd, Nat.zero_add, List.mem_cons, List.not_mem_nil, or_false, forall_eq_or_imp, forall_eq, ne_eq, false_imp_iff, implies_true, and_true] at hF))
      go_ret
      exact RowOut.mk hO
theorem mtS_C (w : World) : CMt 5 w := fun va vb a b W _ h1 h2 hn hm => mtS_any va vb a b W h1 h2 hn hm