/- The walk of FnExactRealizeFault, from what the program's function answers. -/
import Derived.Test.YtfiodejbeeblgaaDoorWalks13R
import Derived.Test.YtfiodejbeeblgaaDoorStks2
import Derived.Test.YtfiodejbeeblgaaDoorIntC
import Derived.Test.YtfiodejbeeblgaaDoorLawsX10
namespace Go.Proofs.YtfiodejbeeblgaaDoor
set_option linter.unusedSimpArgs false
set_option linter.unusedVariables false
set_option maxRecDepth 8000
open Go.RowKit

theorem stkR_own13 {n : Nat} {B : World → Prop} {w : World} {v : Value} {es : List (Value × List Pt)} {ll : List (List Pt)} {L : List Item} (hE : lsO es = ll) (h : Own n B w (.row 27 1 v es.length (vsO es) :: (rwP es ++ L))) : StkR w v ll := hE ▸ StkR.of_own h

set_option maxRecDepth 20000 in
set_option maxHeartbeats 8000000 in
theorem xRealizeFault_of (hMv : MvS) (f : Int) (vb : Value) (bs : List Pt) (vg : Value) (gs : List Int) (vl : Value) (ll : List (List Pt)) (w : World) (hf : r64 f) (hbm : bs.length ≤ maxLen) (hb64 : ∀ x ∈ bs, p64s x) (hB0 : PtsAt w vb bs) (hgm : gs.length ≤ maxLen) (hg64 : ∀ g ∈ gs, r64 g) (hG0 : IntsIn w vg gs) (h : StkIn w vl ll) (h64 : ∀ l ∈ ll, ∀ x ∈ l, p64s x)
    (hI : CRf 21 w) :
    Calls Tryd.prog 9 #[.int .i64 f, vb, vg, vl] w fun e w' => e = .returned (.bool true) ∧ Below w.heap.size w w' := by
  have hO := Own.start w
  have hF := True.intro
  obtain ⟨Ag, cg, rfl, _⟩ := hG0.open11
  by_cases hgl : gs.length ≤ 1048576
  · by_cases hbl : bs.length ≤ 1048576
    · have HZ := hid (szP_is hB0 hbm (szP_yes hbl))
      obtain ⟨nb, hnb⟩ : ∃ n, bs.length = n := ⟨_, rfl⟩
      obtain ⟨ng, hng⟩ : ∃ n, gs.length = n := ⟨_, rfl⟩
      rw [hnb] at HZ hbl
      obtain ⟨z, hz⟩ : ∃ z, szKZ (1048576 - (nb : Int)) ll = z := ⟨_, rfl⟩
      have HZ2 := hid (fun W (hW : Below w.heap.size w W) => szPSS_any vl ll (1048576 - (nb : Int)) z W (h.below hW) (by omega) (by omega) hz)
      have n0 : (0 : Int) ≤ 1048576 - (nb : Int) := by omega
      have n1 : ¬ (1048576 - (nb : Int) < 0) := by omega
      have hgl2 : (ng : Int) ≤ 1048576 := by omega
      have hgl3 : ¬ 1048576 < (ng : Int) := by omega
      rcases szKZ_ok (ll := ll) (n := 1048576 - (nb : Int)) (by omega) with h1 | ⟨z0, _, hn, hpt, hle'⟩
      · obtain rfl : z = -1 := by rw [← hz]; exact h1
        rw [hng]
        clear h hz h1 hI h64 hb64 hg64 hB0 hG0 hnb hng hbm hgm hgl hbl hf
        go_enter Tryd.func9, Tryd.ntmps9
        go_wp2_with (first | (go_at_call 29; refine (HZ.out _ (Below.refl _ _)).mono ?_; rintro e w1 ⟨rfl, rfl⟩) | (go_at_call 37; refine (HZ2.out _ (Below.refl _ _)).mono ?_; rintro e w1 ⟨rfl, rfl⟩))
        go_ret
        exact ⟨rfl, hO.base⟩
      · rw [hz] at z0
        have z1 : ¬ z < 0 := by omega
        have hn9 : ll.length ≤ 1048576 := by omega
        have hle : ∀ l ∈ ll, l.length ≤ 1048576 := fun l hl => by have := hle' l hl; omega
        have HTB := hid (fun W (hW : Below w.heap.size w W) => toPS_any vb bs W (hB0.below hW) (by rw [hnb]; exact hbl))
        have HTG := hid (fun W (hW : Below w.heap.size w W) => toN_at _ gs W (hG0.below hW) hgl)
        have HTL := hid (fun W (hW : Below w.heap.size w W) => toPSS_any vl ll W (h.below hW) hn9 hle)
        obtain ⟨y, hy⟩ : ∃ y, rfZ f bs gs ll = y := ⟨_, rfl⟩
        have HS := hid (fun va vc vd W (hW : Below w.heap.size w W) (a : SlAt W va nb 3 (pcC bs)) (b : SlAt W vc ng 1 (intC gs)) (c : StkR W vd ll) => by
          have := rfS_C hMv w f va vc vd bs gs ll W hW hf (by rw [hnb]; exact a) (by rw [hng]; exact b) c (by rw [hnb]; exact hbl) hgl hn9 hb64 hg64 hle h64
          rwa [hy] at this)
        have HI := hid (fun va vc vd W (hW : Below w.heap.size w W) (a : SlAt W va nb 3 (pcC bs)) (b : SlAt W vc ng 1 (intC gs)) (c : StkR W vd ll) => by
          have := hI f va vc vd bs gs ll W hW hf (by rw [hnb]; exact a) (by rw [hng]; exact b) c (by rw [hnb]; exact hbl) hgl hn9 hb64 hg64 hle h64
          rwa [hy] at this)
        have HEP := hid (fun va vb W (h1 : SlAt W va nb 3 (pcC bs)) (h2 : SlAt W vb nb 3 (pcC bs)) => eqPS_same va vb nb (pcC bs) W h1 h2 (pcC_int bs))
        have HEI := hid (fun va vb W (h1 : SlAt W va ng 1 (intC gs)) (h2 : SlAt W vb ng 1 (intC gs)) => eqIntS_same va vb ng (intC gs) W h1 h2 (intC_int gs))
        have HEL := hid (fun va vb W (h1 : StkR W va ll) (h2 : StkR W vb ll) => eqPSS_same va vb ll ll.length W rfl h1 h2 hn9)
        rw [hnb] at HTB
        rw [hng] at HTG ⊢
        clear h hz hI h64 hb64 hg64 hB0 hG0 hnb hng hbm hgm hgl hbl hf hy hn hpt hle' hle hn9
        go_enter Tryd.func9, Tryd.ntmps9
        go_wp2_with (first | (go_at_call 29; refine (HZ.out _ (Below.refl _ _)).mono ?_; rintro e w1 ⟨rfl, rfl⟩) | (go_at_call 37; refine (HZ2.out _ (Below.refl _ _)).mono ?_; rintro e w1 ⟨rfl, rfl⟩))
        (go_at_call 30; apply own_at hO; (repeat (first | (with_reducible exact hO) | (with_reducible apply Own.alloc) | (with_reducible apply Own.drew) | ((with_reducible apply Own.set_at); (focus (show _ ≤ _; omega))))); have hG := hF; clear hF; clear hO; intro hO; refine own_call_row hO (fun hB => HTB.out _ hB) ?_; clear hO; intro v w1 hO; (try simp only [World.size_alloc1, World.size_drew, Nat.reduceAdd] at hO); (try simp only [upd, updI, List.map_cons, List.map_nil, eq_self, if_true, if_false, reduceIte, Nat.add_eq_left, Nat.left_eq_add, Nat.reduceEqDiff, List.set_cons_zero, List.set_cons_succ, hG] at hO); clear hG; have hF := hO; (try simp only [Own, Item.Holds, apartI, CellsAt, Nat.reduceAdd, Nat.zero_add, List.mem_cons, List.not_mem_nil, or_false, forall_eq_or_imp, forall_eq, ne_eq, false_imp_iff, implies_true, and_true] at hF))
        obtain ⟨A1, c1, hv1⟩ := (SlAt.of_row hO.1.1).form
        subst hv1
        go_wp2_with fail
        (go_at_call 31; apply own_at hO; (repeat (first | (with_reducible exact hO) | (with_reducible apply Own.alloc) | (with_reducible apply Own.drew) | ((with_reducible apply Own.set_at); (focus (show _ ≤ _; omega))))); have hG := hF; clear hF; clear hO; intro hO; refine own_call_row hO (fun hB => HTG.out _ hB) ?_; clear hO; intro v w1 hO; (try simp only [World.size_alloc1, World.size_drew, Nat.reduceAdd] at hO); (try simp only [upd, updI, List.map_cons, List.map_nil, eq_self, if_true, if_false, reduceIte, Nat.add_eq_left, Nat.left_eq_add, Nat.reduceEqDiff, List.set_cons_zero, List.set_cons_succ, hG] at hO); clear hG; have hF := hO; (try simp only [Own, Item.Holds, apartI, CellsAt, Nat.reduceAdd, Nat.zero_add, List.mem_cons, List.not_mem_nil, or_false, forall_eq_or_imp, forall_eq, ne_eq, false_imp_iff, implies_true, and_true] at hF))
        obtain ⟨A2, c2, hv2⟩ := (SlAt.of_row hO.1.1).form
        subst hv2
        go_wp2_with fail
        (go_at_call 38; apply own_at hO; (repeat (first | (with_reducible exact hO) | (with_reducible apply Own.alloc) | (with_reducible apply Own.drew) | ((with_reducible apply Own.set_at); (focus (show _ ≤ _; omega))))); have hG := hF; clear hF; clear hO; intro hO; clear hG; refine own_call_stk hO (fun hB => HTL.out _ hB) ?_; clear hO; intro v3 es1 w1 hE1 hO; have hF := hO; (try simp only [Own, Item.Holds, apartI, CellsAt, Nat.reduceAdd, Nat.zero_add, List.mem_cons, List.not_mem_nil, or_false, forall_eq_or_imp, forall_eq, ne_eq, false_imp_iff, implies_true, and_true] at hF))
        go_wp2_with fail
        (go_at_call 23; apply own_at hO; (repeat (first | (with_reducible exact hO) | (with_reducible apply Own.alloc) | (with_reducible apply Own.drew) | ((with_reducible apply Own.set_at); (focus (show _ ≤ _; omega))))); have hG := hF; clear hF; clear hO; intro hO; refine own_callO hO (fun hW => HS.out _ _ _ _ hW.base (SlAt.of_row (hW.holds (.row 24 3 (.slice A1 nb c1) nb (pcC bs)) (by simp))) (SlAt.of_row (hW.holds (.row 3 1 (.slice A2 ng c2) ng (intC gs)) (by simp))) (stkR_own13 hE1 hW)) ?_; clear hO; intro w1 hO; (try simp only [World.size_alloc1, World.size_drew, Nat.reduceAdd] at hO); (try simp only [upd, updI, List.map_cons, List.map_nil, eq_self, if_true, if_false, reduceIte, Nat.add_eq_left, Nat.left_eq_add, Nat.reduceEqDiff, List.set_cons_zero, List.set_cons_succ, hG] at hO); clear hG; have hF := hO; (try simp only [Own, Item.Holds, apartI, CellsAt, Nat.reduceAdd, Nat.zero_add, List.mem_cons, List.not_mem_nil, or_false, forall_eq_or_imp, forall_eq, ne_eq, false_imp_iff, implies_true, and_true] at hF))
        replace hO := hO.sub (List.nil_sublist _)
        clear hE1 hF
        have hF := hO; (try simp only [Own, Item.Holds, apartI, CellsAt, Nat.reduceAdd, Nat.zero_add, List.mem_cons, List.not_mem_nil, or_false, forall_eq_or_imp, forall_eq, ne_eq, false_imp_iff, implies_true, and_true] at hF)
        go_wp2_with fail
        (go_at_call 30; apply own_at hO; (repeat (first | (with_reducible exact hO) | (with_reducible apply Own.alloc) | (with_reducible apply Own.drew) | ((with_reducible apply Own.set_at); (focus (show _ ≤ _; omega))))); have hG := hF; clear hF; clear hO; intro hO; refine own_call_row hO (fun hB => HTB.out _ hB) ?_; clear hO; intro v w1 hO; (try simp only [World.size_alloc1, World.size_drew, Nat.reduceAdd] at hO); (try simp only [upd, updI, List.map_cons, List.map_nil, eq_self, if_true, if_false, reduceIte, Nat.add_eq_left, Nat.left_eq_add, Nat.reduceEqDiff, List.set_cons_zero, List.set_cons_succ, hG] at hO); clear hG; have hF := hO; (try simp only [Own, Item.Holds, apartI, CellsAt, Nat.reduceAdd, Nat.zero_add, List.mem_cons, List.not_mem_nil, or_false, forall_eq_or_imp, forall_eq, ne_eq, false_imp_iff, implies_true, and_true] at hF))
        obtain ⟨A3, c3, hv3⟩ := (SlAt.of_row hO.1.1).form
        subst hv3
        go_wp2_with fail
        (go_at_call 31; apply own_at hO; (repeat (first | (with_reducible exact hO) | (with_reducible apply Own.alloc) | (with_reducible apply Own.drew) | ((with_reducible apply Own.set_at); (focus (show _ ≤ _; omega))))); have hG := hF; clear hF; clear hO; intro hO; refine own_call_row hO (fun hB => HTG.out _ hB) ?_; clear hO; intro v w1 hO; (try simp only [World.size_alloc1, World.size_drew, Nat.reduceAdd] at hO); (try simp only [upd, updI, List.map_cons, List.map_nil, eq_self, if_true, if_false, reduceIte, Nat.add_eq_left, Nat.left_eq_add, Nat.reduceEqDiff, List.set_cons_zero, List.set_cons_succ, hG] at hO); clear hG; have hF := hO; (try simp only [Own, Item.Holds, apartI, CellsAt, Nat.reduceAdd, Nat.zero_add, List.mem_cons, List.not_mem_nil, or_false, forall_eq_or_imp, forall_eq, ne_eq, false_imp_iff, implies_true, and_true] at hF))
        obtain ⟨A4, c4, hv4⟩ := (SlAt.of_row hO.1.1).form
        subst hv4
        go_wp2_with fail
        (go_at_call 38; apply own_at hO; (repeat (first | (with_reducible exact hO) | (with_reducible apply Own.alloc) | (with_reducible apply Own.drew) | ((with_reducible apply Own.set_at); (focus (show _ ≤ _; omega))))); have hG := hF; clear hF; clear hO; intro hO; clear hG; refine own_call_stk hO (fun hB => HTL.out _ hB) ?_; clear hO; intro v5 es2 w1 hE2 hO; have hF := hO; (try simp only [Own, Item.Holds, apartI, CellsAt, Nat.reduceAdd, Nat.zero_add, List.mem_cons, List.not_mem_nil, or_false, forall_eq_or_imp, forall_eq, ne_eq, false_imp_iff, implies_true, and_true] at hF))
        go_wp2_with fail
        (go_at_call 21; apply own_at hO; (repeat (first | (with_reducible exact hO) | (with_reducible apply Own.alloc) | (with_reducible apply Own.drew) | ((with_reducible apply Own.set_at); (focus (show _ ≤ _; omega))))); have hG := hF; clear hF; clear hO; intro hO; refine own_callO hO (fun hW => HI.out _ _ _ _ hW.base (SlAt.of_row (hW.holds (.row 24 3 (.slice A3 nb c3) nb (pcC bs)) (by simp))) (SlAt.of_row (hW.holds (.row 3 1 (.slice A4 ng c4) ng (intC gs)) (by simp))) (stkR_own13 hE2 hW)) ?_; clear hO; intro w1 hO; (try simp only [World.size_alloc1, World.size_drew, Nat.reduceAdd] at hO); (try simp only [upd, updI, List.map_cons, List.map_nil, eq_self, if_true, if_false, reduceIte, Nat.add_eq_left, Nat.left_eq_add, Nat.reduceEqDiff, List.set_cons_zero, List.set_cons_succ, hG] at hO); clear hG; have hF := hO; (try simp only [Own, Item.Holds, apartI, CellsAt, Nat.reduceAdd, Nat.zero_add, List.mem_cons, List.not_mem_nil, or_false, forall_eq_or_imp, forall_eq, ne_eq, false_imp_iff, implies_true, and_true] at hF))
        have HK := hid hE2
        clear hE2
        go_wp2_with fail
        (go_at_call 30; apply own_at hO; (repeat (first | (with_reducible exact hO) | (with_reducible apply Own.alloc) | (with_reducible apply Own.drew) | ((with_reducible apply Own.set_at); (focus (show _ ≤ _; omega))))); have hG := hF; clear hF; clear hO; intro hO; refine own_call_row hO (fun hB => HTB.out _ hB) ?_; clear hO; intro v w1 hO; (try simp only [World.size_alloc1, World.size_drew, Nat.reduceAdd] at hO); (try simp only [upd, updI, List.map_cons, List.map_nil, eq_self, if_true, if_false, reduceIte, Nat.add_eq_left, Nat.left_eq_add, Nat.reduceEqDiff, List.set_cons_zero, List.set_cons_succ, hG] at hO); clear hG; have hF := hO; (try simp only [Own, Item.Holds, apartI, CellsAt, Nat.reduceAdd, Nat.zero_add, List.mem_cons, List.not_mem_nil, or_false, forall_eq_or_imp, forall_eq, ne_eq, false_imp_iff, implies_true, and_true] at hF))
        obtain ⟨A5, c5, hv5⟩ := (SlAt.of_row hO.1.1).form
        subst hv5
        go_wp2_with fail
        (go_at_call 26; apply own_at hO; (repeat (first | (with_reducible exact hO) | (with_reducible apply Own.alloc) | (with_reducible apply Own.drew) | ((with_reducible apply Own.set_at); (focus (show _ ≤ _; omega))))); have hG := hF; clear hF; clear hO; intro hO; refine own_callO hO (fun hW => HEP.out _ _ _ (SlAt.of_row (hW.holds (.row 24 3 (.slice A3 nb c3) nb (pcC bs)) (by simp))) (SlAt.of_row hW.1.1)) ?_; clear hO; intro w1 hO; (try simp only [World.size_alloc1, World.size_drew, Nat.reduceAdd] at hO); (try simp only [upd, updI, List.map_cons, List.map_nil, eq_self, if_true, if_false, reduceIte, Nat.add_eq_left, Nat.left_eq_add, Nat.reduceEqDiff, List.set_cons_zero, List.set_cons_succ, hG] at hO); clear hG; have hF := hO; (try simp only [Own, Item.Holds, apartI, CellsAt, Nat.reduceAdd, Nat.zero_add, List.mem_cons, List.not_mem_nil, or_false, forall_eq_or_imp, forall_eq, ne_eq, false_imp_iff, implies_true, and_true] at hF))
        replace hO := hO.2
        clear hF
        have hF := hO; (try simp only [Own, Item.Holds, apartI, CellsAt, Nat.reduceAdd, Nat.zero_add, List.mem_cons, List.not_mem_nil, or_false, forall_eq_or_imp, forall_eq, ne_eq, false_imp_iff, implies_true, and_true] at hF)
        go_wp2_with fail
        (go_at_call 31; apply own_at hO; (repeat (first | (with_reducible exact hO) | (with_reducible apply Own.alloc) | (with_reducible apply Own.drew) | ((with_reducible apply Own.set_at); (focus (show _ ≤ _; omega))))); have hG := hF; clear hF; clear hO; intro hO; refine own_call_row hO (fun hB => HTG.out _ hB) ?_; clear hO; intro v w1 hO; (try simp only [World.size_alloc1, World.size_drew, Nat.reduceAdd] at hO); (try simp only [upd, updI, List.map_cons, List.map_nil, eq_self, if_true, if_false, reduceIte, Nat.add_eq_left, Nat.left_eq_add, Nat.reduceEqDiff, List.set_cons_zero, List.set_cons_succ, hG] at hO); clear hG; have hF := hO; (try simp only [Own, Item.Holds, apartI, CellsAt, Nat.reduceAdd, Nat.zero_add, List.mem_cons, List.not_mem_nil, or_false, forall_eq_or_imp, forall_eq, ne_eq, false_imp_iff, implies_true, and_true] at hF))
        obtain ⟨A6, c6, hv6⟩ := (SlAt.of_row hO.1.1).form
        subst hv6
        go_wp2_with fail
        (go_at_call 33; apply own_at hO; (repeat (first | (with_reducible exact hO) | (with_reducible apply Own.alloc) | (with_reducible apply Own.drew) | ((with_reducible apply Own.set_at); (focus (show _ ≤ _; omega))))); have hG := hF; clear hF; clear hO; intro hO; refine own_callO hO (fun hW => HEI.out _ _ _ (SlAt.of_row (hW.holds (.row 3 1 (.slice A4 ng c4) ng (intC gs)) (by simp))) (SlAt.of_row hW.1.1)) ?_; clear hO; intro w1 hO; (try simp only [World.size_alloc1, World.size_drew, Nat.reduceAdd] at hO); (try simp only [upd, updI, List.map_cons, List.map_nil, eq_self, if_true, if_false, reduceIte, Nat.add_eq_left, Nat.left_eq_add, Nat.reduceEqDiff, List.set_cons_zero, List.set_cons_succ, hG] at hO); clear hG; have hF := hO; (try simp only [Own, Item.Holds, apartI, CellsAt, Nat.reduceAdd, Nat.zero_add, List.mem_cons, List.not_mem_nil, or_false, forall_eq_or_imp, forall_eq, ne_eq, false_imp_iff, implies_true, and_true] at hF))
        replace hO := hO.2
        clear hF
        have hF := hO; (try simp only [Own, Item.Holds, apartI, CellsAt, Nat.reduceAdd, Nat.zero_add, List.mem_cons, List.not_mem_nil, or_false, forall_eq_or_imp, forall_eq, ne_eq, false_imp_iff, implies_true, and_true] at hF)
        go_wp2_with fail
        (go_at_call 38; apply own_at hO; (repeat (first | (with_reducible exact hO) | (with_reducible apply Own.alloc) | (with_reducible apply Own.drew) | ((with_reducible apply Own.set_at); (focus (show _ ≤ _; omega))))); have hG := hF; clear hF; clear hO; intro hO; clear hG; refine own_call_stk hO (fun hB => HTL.out _ hB) ?_; clear hO; intro v7 es3 w1 hE3 hO; have hF := hO; (try simp only [Own, Item.Holds, apartI, CellsAt, Nat.reduceAdd, Nat.zero_add, List.mem_cons, List.not_mem_nil, or_false, forall_eq_or_imp, forall_eq, ne_eq, false_imp_iff, implies_true, and_true] at hF))
        go_wp2_with fail
        (go_at_call 32; apply own_at hO; (repeat (first | (with_reducible exact hO) | (with_reducible apply Own.alloc) | (with_reducible apply Own.drew) | ((with_reducible apply Own.set_at); (focus (show _ ≤ _; omega))))); have hG := hF; clear hF; clear hO; intro hO; refine own_call hO (fun hB => HEL.out _ _ _ (stkR_own13 HK.out hO.2.skipP) (stkR_own13 hE3 hO)) ?_; clear hO; intro w1 hO; (try simp only [World.size_alloc1, World.size_drew, Nat.reduceAdd] at hO); (try simp only [upd, updI, List.map_cons, List.map_nil, eq_self, if_true, if_false, reduceIte, Nat.add_eq_left, Nat.left_eq_add, Nat.reduceEqDiff, List.set_cons_zero, List.set_cons_succ, hG] at hO); clear hG; have hF := hO; (try simp only [Own, Item.Holds, apartI, CellsAt, Nat.reduceAdd, Nat.zero_add, List.mem_cons, List.not_mem_nil, or_false, forall_eq_or_imp, forall_eq, ne_eq, false_imp_iff, implies_true, and_true] at hF))
        go_wp2_with fail
        go_ret
        exact ⟨rfl, Own.base (by first | exact hO | (repeat (first | (with_reducible exact hO) | (with_reducible apply Own.alloc) | (with_reducible apply Own.drew) | ((with_reducible apply Own.set_at); (focus (show _ ≤ _; omega))))))⟩
    · have HZ := hid (szP_is hB0 hbm (szP_no (by omega)))
      obtain ⟨ng, hng⟩ : ∃ n, gs.length = n := ⟨_, rfl⟩
      have hgl3 : ¬ 1048576 < (ng : Int) := by omega
      have hgl2 : (ng : Int) ≤ 1048576 := by omega
      rw [hng]
      clear h hI h64 hb64 hg64 hB0 hG0 hng hbm hgm hgl hbl hf
      go_enter Tryd.func9, Tryd.ntmps9
      go_wp2_with (go_at_call 29; refine (HZ.out _ (Below.refl _ _)).mono ?_; rintro e w1 ⟨rfl, rfl⟩)
      go_ret
      exact ⟨rfl, hO.base⟩
  · have n0 : (1048576 : Int) < (gs.length : Int) := by omega
    have n1 : (gs.length : Int) ≤ 9223372036854775807 := by unfold maxLen at hgm; omega
    clear h hI h64 hb64 hg64 hB0 hG0 hbm hgm hgl hf
    go_enter Tryd.func9, Tryd.ntmps9
    go_wp2
    go_ret
    exact ⟨rfl, hO.base⟩
end Go.Proofs.YtfiodejbeeblgaaDoor
