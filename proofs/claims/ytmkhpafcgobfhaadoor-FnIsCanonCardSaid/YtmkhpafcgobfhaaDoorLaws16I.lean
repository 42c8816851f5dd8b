/- The walk of FnIsCanon, from what the functions answer. -/
import Derived.Test.YtmkhpafcgobfhaaDoorDraws16I
import Derived.Test.YtmkhpafcgobfhaaDoorCon16
import Derived.Test.YtmkhpafcgobfhaaDoorCon5
import Derived.Test.YtmkhpafcgobfhaaDoorLawsPitch
import Derived.Test.YtmkhpafcgobfhaaDoorRegionD
namespace Go.Proofs.YtmkhpafcgobfhaaDoor
set_option linter.unusedSimpArgs false
set_option linter.unusedVariables false
set_option maxRecDepth 8000
open Go.RowKit

theorem vtI16 {va : Value} {v : List Nt} {n : Nat} {w : World} {z : Int} (hI : CInt 36 vtZ w) (hl : v.length = n) (ha : SlAt w va n 6 (vcC v)) (hn : n ≤ 1048576) (h : vtZ v = z) (W : World) (hW : Below w.heap.size w W) :
    Calls Tryd.prog 36 #[va] W fun e w' => e = .returned (.int .i64 z) ∧ Below W.heap.size W w' := by
  subst hl h; exact hI va v W hW (ha.below hW) hn

set_option maxRecDepth 20000 in
set_option maxHeartbeats 8000000 in
theorem fnIsCanon_of (v : Value) (n0 : Nat) (w : World) (hn : n0 ≤ maxLen) (h : BytesB w w.heap.size v n0) (ht : TabH w)
    (hS : CIc 35 w) (hI : CIc 33 w) (hV : CInt 36 vtZ w) :
    Calls Tryd.prog 7 #[v] w fun e w' => e = .returned (.bool true) ∧ Below w.heap.size w w' := by
  obtain ⟨a0, c0, rfl⟩ := h.form
  have hn' : (n0 : Int) ≤ 9223372036854775807 := by unfold maxLen at hn; omega
  by_cases hl : n0 ≤ 1048576
  · have hl' : (n0 : Int) ≤ 1048576 := by omega
    go_enter Tryd.func7, Tryd.ntmps7
    go_wp2_with (go_at_call 34; refine (DrawIsCanon_any _ n0 _ hn h).mono ?_; rintro e wd ⟨u, a, u', b, la, lb, rfl, hs, hs', hb0⟩)
    have HT := hid (ht.below hb0)
    have HB0 := hid hb0
    have hO := Own.start wd
    have hF := True.intro
    obtain ⟨n, hna⟩ : ∃ n, a.length = n := ⟨_, rfl⟩
    obtain ⟨m, hmb⟩ : ∃ n, b.length = n := ⟨_, rfl⟩
    rw [hna] at hs la
    rw [hmb] at hs' lb
    have HA := hid hs
    have HB := hid hs'
    have n1 : n ≤ 1048576 := by omega
    have m1 : m ≤ 1048576 := by omega
    obtain ⟨z, hz⟩ : ∃ z, icB a b = z := ⟨_, rfl⟩
    have HI := hid ((hI.to hb0).is hna hmb n1 m1 hz)
    have HS := hid ((hS.to hb0).is hna hmb n1 m1 hz)
    have HK := hid ((hI.to hb0).is hna hna n1 n1 (ic_self a))
    have hV' : CInt 36 vtZ wd := fun va v W hW => hV va v W (btr hb0 hW)
    cases z
    · clear hn h ht hI hS hV hV' hb0 hs hs' hz hna hmb la lb n1 m1
      go_wp2_with (first | ((go_at_call 33; apply own_at hO; (repeat (first | (with_reducible exact hO) | (with_reducible apply Own.alloc) | (with_reducible apply Own.drew) | ((with_reducible apply Own.set_at); (focus (show _ ≤ _; omega))))); have hG := hF; clear hF; clear hO; intro hO; refine own_call hO (fun hB => HI.out _ _ _ hB (HA.out.below hB) (HB.out.below hB)) ?_; clear hO; intro w1 hO; (try simp only [World.size_alloc1, World.size_drew, Nat.reduceAdd] at hO); (try simp only [upd, updI, List.map_cons, List.map_nil, eq_self, if_true, if_false, reduceIte, Nat.add_eq_left, Nat.left_eq_add, Nat.reduceEqDiff, List.set_cons_zero, List.set_cons_succ, hG] at hO); clear hG; have hF := hO; (try simp only [Own, Item.Holds, apartI, CellsAt, Nat.reduceAdd, Nat.zero_add, List.mem_cons, List.not_mem_nil, or_false, forall_eq_or_imp, forall_eq, ne_eq, false_imp_iff, implies_true, and_true] at hF)); clear HI) | (go_at_call 35; apply own_at hO; (repeat (first | (with_reducible exact hO) | (with_reducible apply Own.alloc) | (with_reducible apply Own.drew) | ((with_reducible apply Own.set_at); (focus (show _ ≤ _; omega))))); have hG := hF; clear hF; clear hO; intro hO; refine own_call hO (fun hB => HS.out _ _ _ hB (HA.out.below hB) (HB.out.below hB)) ?_; clear hO; intro w1 hO; (try simp only [World.size_alloc1, World.size_drew, Nat.reduceAdd] at hO); (try simp only [upd, updI, List.map_cons, List.map_nil, eq_self, if_true, if_false, reduceIte, Nat.add_eq_left, Nat.left_eq_add, Nat.reduceEqDiff, List.set_cons_zero, List.set_cons_succ, hG] at hO); clear hG; have hF := hO; (try simp only [Own, Item.Holds, apartI, CellsAt, Nat.reduceAdd, Nat.zero_add, List.mem_cons, List.not_mem_nil, or_false, forall_eq_or_imp, forall_eq, ne_eq, false_imp_iff, implies_true, and_true] at hF)))
      apply own_code hO
      (repeat (first | (with_reducible exact hO) | (with_reducible apply Own.alloc) | (with_reducible apply Own.drew) | ((with_reducible apply Own.set_at); (focus (show _ ≤ _; omega)))))
      have hG := hF; clear hF; clear hO; intro hO
      (try simp only [World.size_alloc1, World.size_drew, Nat.reduceAdd] at hO); (try simp only [upd, updI, List.map_cons, List.map_nil, eq_self, if_true, if_false, reduceIte, Nat.add_eq_left, Nat.left_eq_add, Nat.reduceEqDiff, List.set_cons_zero, List.set_cons_succ, hG] at hO); clear hG
      refine region_own (X := fun _ => True) [] (by kernel_rfl) (hO) (trivial) (by first | exact XStab.true | exact XStab.rd | exact XStab.rdIf) ?_
      clear hO
      refine Sim.sP (i := 0) (d := some 22) (h := ?_)
      refine Sim.sP (i := 1) (d := some 23) (h := ?_)
      refine Sim.sO (i := 2) (d := some 24) (v := ?_) (hy := ?_) (h := ?_)
      rotate_left
      · first | refine Or.inl ⟨by rfl, fun w hO => ?_⟩ | (refine Or.inr ⟨by rfl, ?_⟩; with_reducible rfl)
        first | done | (refine Out.call (f := 33) (args := ?_) ?_ ?_; rotate_left; (focus (go_simp; all_goals with_reducible rfl)); exact HK.out _ _ _ hO.base (HA.out.below hO.base) (HA.out.below hO.base))
      refine Sim.sP (i := 3) (d := some 25) (h := ?_)
      refine Sim.sP (i := 4) (d := some 26) (h := ?_)
      refine Sim.sP (i := 5) (d := some 27) (h := ?_)
      refine Sim.sP (i := 6) (d := some 28) (h := ?_)
      refine Sim.sP (i := 7) (d := some 29) (h := ?_)
      refine Sim.sP (i := 8) (d := some 30) (h := ?_)
      refine Sim.sP (i := 9) (d := some 31) (h := ?_)
      refine Sim.sP (i := 10) (d := some 32) (h := ?_)
      refine Sim.sP (i := 11) (d := some 33) (h := ?_)
      refine Sim.sP (i := 12) (d := some 34) (h := ?_)
      refine Sim.sP (i := 13) (d := some 35) (h := ?_)
      refine Sim.sP (i := 14) (d := some 36) (h := ?_)
      refine Sim.sP (i := 15) (d := some 37) (h := ?_)
      refine Sim.sP (i := 16) (d := some 38) (h := ?_)
      refine Sim.sP (i := 17) (d := some 39) (h := ?_)
      refine Sim.sP (i := 18) (d := some 40) (h := ?_)
      refine Sim.sP (i := 19) (d := some 41) (h := ?_)
      refine Sim.sP (i := 20) (d := some 42) (h := ?_)
      refine Sim.sP (i := 21) (d := some 43) (h := ?_)
      refine Sim.sP (i := 22) (d := some 44) (h := ?_)
      refine Sim.sP (i := 23) (d := some 45) (h := ?_)
      refine Sim.sP (i := 24) (d := some 46) (h := ?_)
      refine Sim.sP (i := 25) (d := some 47) (h := ?_)
      refine Sim.sP (i := 26) (d := some 48) (h := ?_)
      refine Sim.sP (i := 27) (d := some 49) (h := ?_)
      refine Sim.sP (i := 28) (d := some 50) (h := ?_)
      refine Sim.sP (i := 29) (d := some 51) (h := ?_)
      refine Sim.sP (i := 30) (d := some 52) (h := ?_)
      refine Sim.sP (i := 31) (d := some 53) (h := ?_)
      refine Sim.sP (i := 32) (d := some 54) (h := ?_)
      refine Sim.sP (i := 33) (d := some 55) (h := ?_)
      refine Sim.sP (i := 34) (d := some 56) (h := ?_)
      refine Sim.sO (i := 35) (d := some 57) (v := ?_) (hy := ?_) (h := ?_)
      rotate_left
      · first | refine Or.inl ⟨by rfl, fun w hO => ?_⟩ | (refine Or.inr ⟨by rfl, ?_⟩; with_reducible rfl)
        first | done | (refine Out.call (f := 27) (args := ?_) ?_ ?_; rotate_left; (focus (go_simp; all_goals with_reducible rfl)); exact alive_any _ (HT.out.below hO.base))
      refine Sim.sP (i := 36) (d := some 58) (h := ?_)
      refine Sim.sP (i := 37) (d := some 2) (h := ?_)
      refine Sim.done (by kernel_rfl) (fun w1 hO hX => ?_) _
      (try simp only [World.size_alloc1, World.size_drew, Nat.reduceAdd] at hO); (try simp only [upd, updI, List.map_cons, List.map_nil, eq_self, if_true, if_false, reduceIte, Nat.add_eq_left, Nat.left_eq_add, Nat.reduceEqDiff, List.set_cons_zero, List.set_cons_succ] at hO)
      have hF := hO; (try simp only [Own, Item.Holds, apartI, CellsAt, Nat.reduceAdd, Nat.zero_add, List.mem_cons, List.not_mem_nil, or_false, forall_eq_or_imp, forall_eq, ne_eq, false_imp_iff, implies_true, and_true] at hF)
      go_wp2_with fail
      go_ret
      exact ⟨rfl, btr HB0.out (Own.base (by first | exact hO | (repeat (first | (with_reducible exact hO) | (with_reducible apply Own.alloc) | (with_reducible apply Own.drew) | ((with_reducible apply Own.set_at); (focus (show _ ≤ _; omega)))))))⟩
    · obtain ⟨v1, v2, hlen, d, hd, hsum⟩ := ic_shape hz
      obtain rfl : m = n + 1 := by omega
      have hdb := nv_pos (tieB_at (voB_iff.1 v2).1 hd)
      have hdt : (rsN d).t = d := rfl
      rw [hdt] at hdb
      have h1 := sum_all16 v1
      obtain ⟨sa, hsa⟩ : ∃ s, sumT a = s := ⟨_, rfl⟩
      have HVA := hid (vtI16 (z := sa) hV' hna hs n1 (by unfold vtZ; rw [if_pos v1, hsa]))
      have HVB := hid (vtI16 (z := sa + d) hV' hmb hs' m1 (by unfold vtZ; rw [if_pos v2, hsum, hsa]))
      rw [hsa] at h1
      have ws : IntKind.i64.wrap (sa + d) = sa + d := IntWalk.i64_in _ (by omega)
      have wn : IntKind.i64.wrap ((n : Int) + 1) = (n : Int) + 1 := IntWalk.i64_in _ (by omega)
      obtain ⟨A1, k1, rfl⟩ := hs.form
      obtain ⟨A2, k2, rfl, _, hA2⟩ := hs'.open
      obtain ⟨q, o, rfl, hc1, hc2, hq⟩ := hA2 (by omega)
      have HD := hid hd
      clear hn h ht hI hS hV hV' hb0 hs hs' hz hna hmb la lb n1 m1 v1 v2 hlen hd hsum hdb hdt hA2 hc1
      go_wp2_with (first | ((go_at_call 33; apply own_at hO; (repeat (first | (with_reducible exact hO) | (with_reducible apply Own.alloc) | (with_reducible apply Own.drew) | ((with_reducible apply Own.set_at); (focus (show _ ≤ _; omega))))); have hG := hF; clear hF; clear hO; intro hO; refine own_call hO (fun hB => HI.out _ _ _ hB (HA.out.below hB) (HB.out.below hB)) ?_; clear hO; intro w1 hO; (try simp only [World.size_alloc1, World.size_drew, Nat.reduceAdd] at hO); (try simp only [upd, updI, List.map_cons, List.map_nil, eq_self, if_true, if_false, reduceIte, Nat.add_eq_left, Nat.left_eq_add, Nat.reduceEqDiff, List.set_cons_zero, List.set_cons_succ, hG] at hO); clear hG; have hF := hO; (try simp only [Own, Item.Holds, apartI, CellsAt, Nat.reduceAdd, Nat.zero_add, List.mem_cons, List.not_mem_nil, or_false, forall_eq_or_imp, forall_eq, ne_eq, false_imp_iff, implies_true, and_true] at hF)); clear HI) | (go_at_call 35; apply own_at hO; (repeat (first | (with_reducible exact hO) | (with_reducible apply Own.alloc) | (with_reducible apply Own.drew) | ((with_reducible apply Own.set_at); (focus (show _ ≤ _; omega))))); have hG := hF; clear hF; clear hO; intro hO; refine own_call hO (fun hB => HS.out _ _ _ hB (HA.out.below hB) (HB.out.below hB)) ?_; clear hO; intro w1 hO; (try simp only [World.size_alloc1, World.size_drew, Nat.reduceAdd] at hO); (try simp only [upd, updI, List.map_cons, List.map_nil, eq_self, if_true, if_false, reduceIte, Nat.add_eq_left, Nat.left_eq_add, Nat.reduceEqDiff, List.set_cons_zero, List.set_cons_succ, hG] at hO); clear hG; have hF := hO; (try simp only [Own, Item.Holds, apartI, CellsAt, Nat.reduceAdd, Nat.zero_add, List.mem_cons, List.not_mem_nil, or_false, forall_eq_or_imp, forall_eq, ne_eq, false_imp_iff, implies_true, and_true] at hF)))
      apply own_code hO
      (repeat (first | (with_reducible exact hO) | (with_reducible apply Own.alloc) | (with_reducible apply Own.drew) | ((with_reducible apply Own.set_at); (focus (show _ ≤ _; omega)))))
      have hG := hF; clear hF; clear hO; intro hO
      (try simp only [World.size_alloc1, World.size_drew, Nat.reduceAdd] at hO); (try simp only [upd, updI, List.map_cons, List.map_nil, eq_self, if_true, if_false, reduceIte, Nat.add_eq_left, Nat.left_eq_add, Nat.reduceEqDiff, List.set_cons_zero, List.set_cons_succ, hG] at hO); clear hG
      refine region_own (X := fun _ => True) [] (by kernel_rfl) (hO) (trivial) (by first | exact XStab.true | exact XStab.rd | exact XStab.rdIf) ?_
      clear hO
      refine Sim.sP (i := 0) (d := some 22) (h := ?_)
      refine Sim.sP (i := 1) (d := some 23) (h := ?_)
      refine Sim.sO (i := 2) (d := some 24) (v := ?_) (hy := ?_) (h := ?_)
      rotate_left
      · first | refine Or.inl ⟨by rfl, fun w hO => ?_⟩ | (refine Or.inr ⟨by rfl, ?_⟩; with_reducible rfl)
        first | done | (refine Out.call (f := 33) (args := ?_) ?_ ?_; rotate_left; (focus (go_simp; all_goals with_reducible rfl)); exact HK.out _ _ _ hO.base (HA.out.below hO.base) (HA.out.below hO.base))
      refine Sim.sP (i := 3) (d := some 25) (h := ?_)
      refine Sim.sP (i := 4) (d := some 26) (h := ?_)
      refine Sim.sP (i := 5) (d := some 27) (h := ?_)
      refine Sim.sP (i := 6) (d := some 28) (h := ?_)
      refine Sim.sP (i := 7) (d := some 29) (h := ?_)
      refine Sim.sP (i := 8) (d := some 30) (h := ?_)
      refine Sim.sO (i := 9) (d := some 31) (v := ?_) (hy := ?_) (h := ?_)
      rotate_left
      · first | refine Or.inl ⟨by rfl, fun w hO => ?_⟩ | (refine Or.inr ⟨by rfl, ?_⟩; with_reducible rfl)
        first | done | (have hF := hO; (try simp only [Own, Item.Holds, apartI, CellsAt, Nat.reduceAdd, Nat.zero_add, List.mem_cons, List.not_mem_nil, or_false, forall_eq_or_imp, forall_eq, ne_eq, false_imp_iff, implies_true, and_true] at hF); ((have ⟨d0, d1, d2, d3, d4, d5⟩ := noteAt (HB.out.below hO.base) (j := 0) HD.out; simp only [Nat.zero_mul, Nat.add_zero, rsN] at d0 d4)); refine Out.same ?_; go_simp; all_goals with_reducible rfl)
      refine Sim.sP (i := 10) (d := some 32) (h := ?_)
      refine Sim.sO (i := 11) (d := some 33) (v := ?_) (hy := ?_) (h := ?_)
      rotate_left
      · first | refine Or.inl ⟨by rfl, fun w hO => ?_⟩ | (refine Or.inr ⟨by rfl, ?_⟩; with_reducible rfl)
        first | done | (have hF := hO; (try simp only [Own, Item.Holds, apartI, CellsAt, Nat.reduceAdd, Nat.zero_add, List.mem_cons, List.not_mem_nil, or_false, forall_eq_or_imp, forall_eq, ne_eq, false_imp_iff, implies_true, and_true] at hF); ((have ⟨d0, d1, d2, d3, d4, d5⟩ := noteAt (HB.out.below hO.base) (j := 0) HD.out; simp only [Nat.zero_mul, Nat.add_zero, rsN] at d0 d4)); refine Out.same ?_; go_simp; all_goals with_reducible rfl)
      refine Sim.sP (i := 12) (d := some 34) (h := ?_)
      refine Sim.sP (i := 13) (d := some 35) (h := ?_)
      refine Sim.sP (i := 14) (d := some 36) (h := ?_)
      refine Sim.sP (i := 15) (d := some 37) (h := ?_)
      refine Sim.sP (i := 16) (d := some 38) (h := ?_)
      refine Sim.sP (i := 17) (d := some 39) (h := ?_)
      refine Sim.sO (i := 18) (d := some 40) (v := ?_) (hy := ?_) (h := ?_)
      rotate_left
      · first | refine Or.inl ⟨by rfl, fun w hO => ?_⟩ | (refine Or.inr ⟨by rfl, ?_⟩; with_reducible rfl)
        first | done | (have hF := hO; (try simp only [Own, Item.Holds, apartI, CellsAt, Nat.reduceAdd, Nat.zero_add, List.mem_cons, List.not_mem_nil, or_false, forall_eq_or_imp, forall_eq, ne_eq, false_imp_iff, implies_true, and_true] at hF); ((have ⟨d0, d1, d2, d3, d4, d5⟩ := noteAt (HB.out.below hO.base) (j := 0) HD.out; simp only [Nat.zero_mul, Nat.add_zero, rsN] at d0 d4)); refine Out.same ?_; go_simp; all_goals with_reducible rfl)
      refine Sim.sP (i := 19) (d := some 41) (h := ?_)
      refine Sim.sP (i := 20) (d := some 42) (h := ?_)
      refine Sim.sP (i := 21) (d := some 43) (h := ?_)
      refine Sim.sO (i := 22) (d := some 44) (v := ?_) (hy := ?_) (h := ?_)
      rotate_left
      · first | refine Or.inl ⟨by rfl, fun w hO => ?_⟩ | (refine Or.inr ⟨by rfl, ?_⟩; with_reducible rfl)
        first | done | (refine Out.call (f := 36) (args := ?_) ?_ ?_; rotate_left; (focus (go_simp; all_goals with_reducible rfl)); exact HVB.out _ hO.base)
      refine Sim.sP (i := 23) (d := some 45) (h := ?_)
      refine Sim.sO (i := 24) (d := some 46) (v := ?_) (hy := ?_) (h := ?_)
      rotate_left
      · first | refine Or.inl ⟨by rfl, fun w hO => ?_⟩ | (refine Or.inr ⟨by rfl, ?_⟩; with_reducible rfl)
        first | done | (refine Out.call (f := 36) (args := ?_) ?_ ?_; rotate_left; (focus (go_simp; all_goals with_reducible rfl)); exact HVA.out _ hO.base)
      refine Sim.sP (i := 25) (d := some 47) (h := ?_)
      refine Sim.sP (i := 26) (d := some 48) (h := ?_)
      refine Sim.sP (i := 27) (d := some 49) (h := ?_)
      refine Sim.sO (i := 28) (d := some 50) (v := ?_) (hy := ?_) (h := ?_)
      rotate_left
      · first | refine Or.inl ⟨by rfl, fun w hO => ?_⟩ | (refine Or.inr ⟨by rfl, ?_⟩; with_reducible rfl)
        first | done | (have hF := hO; (try simp only [Own, Item.Holds, apartI, CellsAt, Nat.reduceAdd, Nat.zero_add, List.mem_cons, List.not_mem_nil, or_false, forall_eq_or_imp, forall_eq, ne_eq, false_imp_iff, implies_true, and_true] at hF); ((have ⟨d0, d1, d2, d3, d4, d5⟩ := noteAt (HB.out.below hO.base) (j := 0) HD.out; simp only [Nat.zero_mul, Nat.add_zero, rsN] at d0 d4)); refine Out.same ?_; go_simp; all_goals with_reducible rfl)
      refine Sim.sP (i := 29) (d := some 51) (h := ?_)
      refine Sim.sP (i := 30) (d := some 52) (h := ?_)
      refine Sim.sP (i := 31) (d := some 53) (h := ?_)
      refine Sim.sP (i := 32) (d := some 54) (h := ?_)
      refine Sim.sP (i := 33) (d := some 55) (h := ?_)
      refine Sim.sP (i := 34) (d := some 56) (h := ?_)
      refine Sim.sO (i := 35) (d := some 57) (v := ?_) (hy := ?_) (h := ?_)
      rotate_left
      · first | refine Or.inl ⟨by rfl, fun w hO => ?_⟩ | (refine Or.inr ⟨by rfl, ?_⟩; with_reducible rfl)
        first | done | (refine Out.call (f := 27) (args := ?_) ?_ ?_; rotate_left; (focus (go_simp; all_goals with_reducible rfl)); exact alive_any _ (HT.out.below hO.base))
      refine Sim.sP (i := 36) (d := some 58) (h := ?_)
      refine Sim.sP (i := 37) (d := some 2) (h := ?_)
      refine Sim.done (by kernel_rfl) (fun w1 hO hX => ?_) _
      (try simp only [World.size_alloc1, World.size_drew, Nat.reduceAdd] at hO); (try simp only [upd, updI, List.map_cons, List.map_nil, eq_self, if_true, if_false, reduceIte, Nat.add_eq_left, Nat.left_eq_add, Nat.reduceEqDiff, List.set_cons_zero, List.set_cons_succ] at hO)
      have hF := hO; (try simp only [Own, Item.Holds, apartI, CellsAt, Nat.reduceAdd, Nat.zero_add, List.mem_cons, List.not_mem_nil, or_false, forall_eq_or_imp, forall_eq, ne_eq, false_imp_iff, implies_true, and_true] at hF)
      go_wp2_with fail
      go_ret
      exact ⟨rfl, btr HB0.out (Own.base (by first | exact hO | (repeat (first | (with_reducible exact hO) | (with_reducible apply Own.alloc) | (with_reducible apply Own.drew) | ((with_reducible apply Own.set_at); (focus (show _ ≤ _; omega)))))))⟩
  · have hl' : (1048576 : Int) < n0 := by omega
    go_enter Tryd.func7, Tryd.ntmps7
    go_wp2
    go_ret
    exact ⟨rfl, Below.refl _ _⟩
end Go.Proofs.YtmkhpafcgobfhaaDoor
