/- The walk of the law of chapter 6's promise on the beat of a tick. -/
import Derived.Test.YtcifmpjefhichaaDoorDrawsMt
import Derived.Test.YtcifmpjefhichaaDoorLawsMe
import Derived.Test.YtcifmpjefhichaaDoorPure6
namespace Go.Proofs.YtcifmpjefhichaaDoor
set_option linter.unusedSimpArgs false
set_option linter.unusedVariables false
open Go.RowKit

set_option maxHeartbeats 8000000 in
theorem fnBeatAt_of (v : Value) (n : Nat) (w : World) (hn : n ≤ maxLen) (h : BytesB w w.heap.size v n) (ht : TabH w) (hI : CBe 24 w) (hB : CBt 20 w) :
    Calls Tryd.prog 5 #[v] w fun e w' => e = .returned (.bool true) ∧ Below w.heap.size w w' := by
  obtain ⟨a0, c0, rfl⟩ := h.form
  have hn' : (n : Int) ≤ 9223372036854775807 := by unfold maxLen at hn; omega
  have HA := hid (And.intro hI hB)
  clear hI hB
  by_cases hl : n ≤ 1048576
  · have hl' : (n : Int) ≤ 1048576 := by omega
    go_enter Tryd.func5, Tryd.ntmps5
    go_wp2_with (go_at_call 23; refine (DrawBeatAt_any _ n _ hn h).mono ?_; rintro e w1 ⟨b, u, t, hx, htb, rfl, hb0⟩; have hO := (Own.start w).below hb0; have hF := hO; (try simp only [Own, Item.Holds, apartI, CellsAt, Nat.reduceAdd, Nat.zero_add, List.mem_cons, List.not_mem_nil, or_false, forall_eq_or_imp, forall_eq, ne_eq, false_imp_iff, implies_true, and_true] at hF); clear hn h)
    obtain ⟨q1, q2⟩ := me_q hx
    have q3 : q64 t := by unfold q64; omega
    have HI := hid (fun W (hW : Below w.heap.size w W) => HA.out.1 b u t W hW q1 q2 q3)
    have HS := hid (fun W => beS_any b u t W htb.2)
    cases hm : beO b u t
    · have e : beX b u t = -1 ∧ beY b u t = -1 ∧ beW b u t = -1 := by simp [beX, beY, beW, hm]
      rw [e.1, e.2.1, e.2.2] at HI HS
      clear e hm hx q1 q2 q3 htb HA
      go_wp2_with (first | (go_at_call 24; apply own_at hO; (repeat (first | (with_reducible exact hO) | (with_reducible apply Own.alloc) | (with_reducible apply Own.drew) | ((with_reducible apply Own.set_at); (focus (show _ ≤ _; omega))))); have hG := hF; clear hF; clear hO; intro hO; refine own_call hO (fun hB => HI.out _ hB) ?_; clear hO; intro w1 hO; (try simp only [World.size_alloc1, World.size_drew, Nat.reduceAdd] at hO); (try simp only [upd, updI, List.map_cons, List.map_nil, eq_self, if_true, if_false, reduceIte, Nat.add_eq_left, Nat.left_eq_add, Nat.reduceEqDiff, List.set_cons_zero, List.set_cons_succ, hG] at hO); clear hG; have hF := hO; (try simp only [Own, Item.Holds, apartI, CellsAt, Nat.reduceAdd, Nat.zero_add, List.mem_cons, List.not_mem_nil, or_false, forall_eq_or_imp, forall_eq, ne_eq, false_imp_iff, implies_true, and_true] at hF)) | (go_at_call 25; apply own_at hO; (repeat (first | (with_reducible exact hO) | (with_reducible apply Own.alloc) | (with_reducible apply Own.drew) | ((with_reducible apply Own.set_at); (focus (show _ ≤ _; omega))))); have hG := hF; clear hF; clear hO; intro hO; refine own_call hO (fun hB => HS.out _) ?_; clear hO; intro w1 hO; (try simp only [World.size_alloc1, World.size_drew, Nat.reduceAdd] at hO); (try simp only [upd, updI, List.map_cons, List.map_nil, eq_self, if_true, if_false, reduceIte, Nat.add_eq_left, Nat.left_eq_add, Nat.reduceEqDiff, List.set_cons_zero, List.set_cons_succ, hG] at hO); clear hG; have hF := hO; (try simp only [Own, Item.Holds, apartI, CellsAt, Nat.reduceAdd, Nat.zero_add, List.mem_cons, List.not_mem_nil, or_false, forall_eq_or_imp, forall_eq, ne_eq, false_imp_iff, implies_true, and_true] at hF)) | (go_at_call 18; apply own_at hO; (repeat (first | (with_reducible exact hO) | (with_reducible apply Own.alloc) | (with_reducible apply Own.drew) | ((with_reducible apply Own.set_at); (focus (show _ ≤ _; omega))))); have hG := hF; clear hF; clear hO; intro hO; refine own_call hO (fun hB => alive_any _ (ht.below hB)) ?_; clear hO; intro w1 hO; (try simp only [World.size_alloc1, World.size_drew, Nat.reduceAdd] at hO); (try simp only [upd, updI, List.map_cons, List.map_nil, eq_self, if_true, if_false, reduceIte, Nat.add_eq_left, Nat.left_eq_add, Nat.reduceEqDiff, List.set_cons_zero, List.set_cons_succ, hG] at hO); clear hG; have hF := hO; (try simp only [Own, Item.Holds, apartI, CellsAt, Nat.reduceAdd, Nat.zero_add, List.mem_cons, List.not_mem_nil, or_false, forall_eq_or_imp, forall_eq, ne_eq, false_imp_iff, implies_true, and_true] at hF)))
      go_ret
      exact ⟨rfl, Own.base (by (repeat (first | (with_reducible exact hO) | (with_reducible apply Own.alloc) | (with_reducible apply Own.drew) | ((with_reducible apply Own.set_at); (focus (show _ ≤ _; omega))))))⟩
    · have e : beX b u t = t / baZ b u ∧ beY b u t = t % baZ b u / beZ u ∧ beW b u t = t % beZ u := by simp [beX, beY, beW, hm]
      rw [e.1, e.2.1, e.2.2] at HI HS
      obtain ⟨hmm, h0⟩ : meB b u = true ∧ 0 ≤ t := by simpa [beO] using hm
      have HT := hid (HA.out.2.is q1 q2 (show btZ b u = baZ b u by unfold btZ; rw [hmm]; rfl))
      have hall := be_all hmm h0
      have hbb := (meB_iff.1 hmm).1
      have hbe := be_bd hmm
      have hba := ba_bd hmm
      have hdiv : (baZ b u).tdiv b = beZ u := by
        rw [Int.tdiv_eq_ediv_of_nonneg (by omega), ba_be hmm, Int.mul_ediv_cancel_left _ (by omega)]
      obtain ⟨x, hxx⟩ : ∃ x, t / baZ b u = x := ⟨_, rfl⟩
      obtain ⟨y, hyy⟩ : ∃ y, t % baZ b u / beZ u = y := ⟨_, rfl⟩
      obtain ⟨z, hzz⟩ : ∃ z, t % beZ u = z := ⟨_, rfl⟩
      rw [hxx, hyy, hzz] at HI HS hall
      obtain ⟨p, hp⟩ : ∃ p, baZ b u = p := ⟨_, rfl⟩
      obtain ⟨q, hq⟩ : ∃ q, beZ u = q := ⟨_, rfl⟩
      rw [hp] at HT hall hdiv hba
      rw [hq] at hall hdiv hbe
      obtain ⟨g1, g2, g3, g4, g5, g6, g7, g8, g9⟩ := hall
      have b0 : ¬ b = 0 := by omega
      have x0 : ¬ x < 0 := by omega
      have s0 : 0 ≤ x * p := Int.mul_nonneg g1 (by omega)
      have w0 : IntKind.i64.wrap q = q := IntWalk.i64_in _ (by omega)
      have w1 : IntKind.i64.wrap (x * p) = x * p := IntWalk.i64_in _ (by omega)
      have w2 : IntKind.i64.wrap (y * q) = y * q := IntWalk.i64_in _ (by omega)
      have w3 : IntKind.i64.wrap (x * p + y * q) = x * p + y * q := IntWalk.i64_in _ (by omega)
      have w4 : IntKind.i64.wrap (x * p + y * q + z) = t := by rw [g9]; exact IntWalk.i64_in _ (by omega)
      clear e hm hmm hx q1 q2 q3 htb HA hxx hyy hzz hp hq g1 g2 g7 g8 g9 s0 h0
      go_wp2_with (first | (go_at_call 24; apply own_at hO; (repeat (first | (with_reducible exact hO) | (with_reducible apply Own.alloc) | (with_reducible apply Own.drew) | ((with_reducible apply Own.set_at); (focus (show _ ≤ _; omega))))); have hG := hF; clear hF; clear hO; intro hO; refine own_call hO (fun hB => HI.out _ hB) ?_; clear hO; intro w1 hO; (try simp only [World.size_alloc1, World.size_drew, Nat.reduceAdd] at hO); (try simp only [upd, updI, List.map_cons, List.map_nil, eq_self, if_true, if_false, reduceIte, Nat.add_eq_left, Nat.left_eq_add, Nat.reduceEqDiff, List.set_cons_zero, List.set_cons_succ, hG] at hO); clear hG; have hF := hO; (try simp only [Own, Item.Holds, apartI, CellsAt, Nat.reduceAdd, Nat.zero_add, List.mem_cons, List.not_mem_nil, or_false, forall_eq_or_imp, forall_eq, ne_eq, false_imp_iff, implies_true, and_true] at hF)) | (go_at_call 25; apply own_at hO; (repeat (first | (with_reducible exact hO) | (with_reducible apply Own.alloc) | (with_reducible apply Own.drew) | ((with_reducible apply Own.set_at); (focus (show _ ≤ _; omega))))); have hG := hF; clear hF; clear hO; intro hO; refine own_call hO (fun hB => HS.out _) ?_; clear hO; intro w1 hO; (try simp only [World.size_alloc1, World.size_drew, Nat.reduceAdd] at hO); (try simp only [upd, updI, List.map_cons, List.map_nil, eq_self, if_true, if_false, reduceIte, Nat.add_eq_left, Nat.left_eq_add, Nat.reduceEqDiff, List.set_cons_zero, List.set_cons_succ, hG] at hO); clear hG; have hF := hO; (try simp only [Own, Item.Holds, apartI, CellsAt, Nat.reduceAdd, Nat.zero_add, List.mem_cons, List.not_mem_nil, or_false, forall_eq_or_imp, forall_eq, ne_eq, false_imp_iff, implies_true, and_true] at hF)) | (go_at_call 20; apply own_at hO; (repeat (first | (with_reducible exact hO) | (with_reducible apply Own.alloc) | (with_reducible apply Own.drew) | ((with_reducible apply Own.set_at); (focus (show _ ≤ _; omega))))); have hG := hF; clear hF; clear hO; intro hO; refine own_call hO (fun hB => HT.out _ hB) ?_; clear hO; intro w1 hO; (try simp only [World.size_alloc1, World.size_drew, Nat.reduceAdd] at hO); (try simp only [upd, updI, List.map_cons, List.map_nil, eq_self, if_true, if_false, reduceIte, Nat.add_eq_left, Nat.left_eq_add, Nat.reduceEqDiff, List.set_cons_zero, List.set_cons_succ, hG] at hO); clear hG; have hF := hO; (try simp only [Own, Item.Holds, apartI, CellsAt, Nat.reduceAdd, Nat.zero_add, List.mem_cons, List.not_mem_nil, or_false, forall_eq_or_imp, forall_eq, ne_eq, false_imp_iff, implies_true, and_true] at hF)))
      go_ret
      exact ⟨rfl, Own.base (by (repeat (first | (with_reducible exact hO) | (with_reducible apply Own.alloc) | (with_reducible apply Own.drew) | ((with_reducible apply Own.set_at); (focus (show _ ≤ _; omega))))))⟩
  · have hl' : 1048576 < (n : Int) := by omega
    go_enter Tryd.func5, Tryd.ntmps5
    go_wp2
    go_ret
    exact ⟨rfl, Below.refl _ _⟩
end Go.Proofs.YtcifmpjefhichaaDoor
