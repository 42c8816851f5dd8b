/- The walk of FnCanonOf, from what the functions answer. -/
import Derived.Test.YtmkhpafcgobfhaaDoorDraws16
import Derived.Test.YtmkhpafcgobfhaaDoorCon16
import Derived.Test.YtmkhpafcgobfhaaDoorCon5
import Derived.Test.YtmkhpafcgobfhaaDoorCon5H
import Derived.Test.YtmkhpafcgobfhaaDoorWalks16R
import Derived.Test.YtmkhpafcgobfhaaDoorWalksNS
import Derived.Test.YtmkhpafcgobfhaaDoorLawsPitch
import Derived.Test.YtmkhpafcgobfhaaDoorRegionD
namespace Go.Proofs.YtmkhpafcgobfhaaDoor
set_option linter.unusedSimpArgs false
set_option linter.unusedVariables false
set_option maxRecDepth 8000
open Go.RowKit

set_option maxRecDepth 20000 in
set_option maxHeartbeats 8000000 in
theorem fnCanonOf_of (v : Value) (n0 : Nat) (w : World) (hn : n0 ≤ maxLen) (h : BytesB w w.heap.size v n0) (ht : TabH w)
    (hS : CCn 30 w) (hI : CCn 29 w) (hV : CBool 32 voB w) (hM : CShift 26 w) (hC : CIc 33 w) :
    Calls Tryd.prog 6 #[v] w fun e w' => e = .returned (.bool true) ∧ Below w.heap.size w w' := by
  obtain ⟨a0, c0, rfl⟩ := h.form
  have hn' : (n0 : Int) ≤ 9223372036854775807 := by unfold maxLen at hn; omega
  by_cases hl : n0 ≤ 1048576
  · have hl' : (n0 : Int) ≤ 1048576 := by omega
    go_enter Tryd.func6, Tryd.ntmps6
    go_wp2_with (go_at_call 28; refine (DrawCanonOf_any _ n0 _ hn h).mono ?_; rintro e wd ⟨u, l, d, st, ha, hv, hl9, hd, hst, hha, rfl, hO1⟩)
    have hb0 := hO1.base
    have HT := hid (ht.below hb0)
    have HB0 := hid hb0
    have hs := SlAt.of_row hO1.1.1
    have hO := Own.start wd
    have hF := True.intro
    obtain ⟨n, hna⟩ : ∃ n, l.length = n := ⟨_, rfl⟩
    rw [hna] at hs hl9
    have HA := hid hs
    have n1 : n ≤ 1048576 := by omega
    have r1 : r64 d := by unfold r64; omega
    have r2 : r64 st := by unfold r64; omega
    have r3 : r64 ha := by unfold r64; omega
    obtain ⟨u8, hu8⟩ : ∃ x, caL l d st ha = x := ⟨_, rfl⟩
    obtain ⟨k8, hk8⟩ : ∃ x, u8.length = x := ⟨_, rfl⟩
    obtain ⟨b8, hb8⟩ : ∃ x, caB l d st ha = x := ⟨_, rfl⟩
    have HI := hid ((hI.to hb0).is hna n1 r1 r2 r3 hu8 hk8 hb8)
    have HS := hid ((hS.to hb0).is hna n1 r1 r2 r3 hu8 hk8 hb8)
    have HG := hid (fun va vb W (h1 : SlAt W va k8 6 (vcC u8)) (h2 : SlAt W vb k8 6 (vcC u8)) => sameVoice_same va vb u8 W (by rw [hk8]; exact h1) (by rw [hk8]; exact h2))
    obtain ⟨A1, k1, rfl⟩ := hs.form
    cases b8
    · have hk0 : k8 = 0 := by rw [← hk8, ← hu8, ca_no hb8]; rfl
      subst hk0
      clear hn h ht hI hS hV hM hC hb0 hs hO1 hv hu8 hk8 hb8 hna hl9 r1 r2 r3 n1
      go_wp2_with fail
      (go_at_call 29; apply own_at hO; (repeat (first | (with_reducible exact hO) | (with_reducible apply Own.alloc) | (with_reducible apply Own.drew) | ((with_reducible apply Own.set_at); (focus (show _ ≤ _; omega))))); have hG := hF; clear hF; clear hO; intro hO; refine own_call_rowB hO (fun hB => HI.out _ _ hB (HA.out.below hB)) ?_; clear hO; intro v w1 hO; (try simp only [World.size_alloc1, World.size_drew, Nat.reduceAdd] at hO); (try simp only [upd, updI, List.map_cons, List.map_nil, eq_self, if_true, if_false, reduceIte, Nat.add_eq_left, Nat.left_eq_add, Nat.reduceEqDiff, List.set_cons_zero, List.set_cons_succ, hG] at hO); clear hG; have hF := hO; (try simp only [Own, Item.Holds, apartI, CellsAt, Nat.reduceAdd, Nat.zero_add, List.mem_cons, List.not_mem_nil, or_false, forall_eq_or_imp, forall_eq, ne_eq, false_imp_iff, implies_true, and_true] at hF))
      obtain ⟨A3, k3, hv3⟩ := (SlAt.of_row hO.1.1).form
      subst hv3
      go_wp2_with (first | (go_at_call 30; apply own_at hO; (repeat (first | (with_reducible exact hO) | (with_reducible apply Own.alloc) | (with_reducible apply Own.drew) | ((with_reducible apply Own.set_at); (focus (show _ ≤ _; omega))))); have hG := hF; clear hF; clear hO; intro hO; refine own_call_rowB hO (fun hB => HS.out _ _ hB (HA.out.below hB)) ?_; clear hO; intro v w1 hO; (try simp only [World.size_alloc1, World.size_drew, Nat.reduceAdd] at hO); (try simp only [upd, updI, List.map_cons, List.map_nil, eq_self, if_true, if_false, reduceIte, Nat.add_eq_left, Nat.left_eq_add, Nat.reduceEqDiff, List.set_cons_zero, List.set_cons_succ, hG] at hO); clear hG; have hF := hO; (try simp only [Own, Item.Holds, apartI, CellsAt, Nat.reduceAdd, Nat.zero_add, List.mem_cons, List.not_mem_nil, or_false, forall_eq_or_imp, forall_eq, ne_eq, false_imp_iff, implies_true, and_true] at hF)) | (go_at_call 31; apply own_at hO; (repeat (first | (with_reducible exact hO) | (with_reducible apply Own.alloc) | (with_reducible apply Own.drew) | ((with_reducible apply Own.set_at); (focus (show _ ≤ _; omega))))); have hG := hF; clear hF; clear hO; intro hO; refine own_callO hO (fun hW => HG.out _ _ _ (SlAt.of_row hW.2.1.1) (SlAt.of_row hW.1.1)) ?_; clear hO; intro w1 hO; (try simp only [World.size_alloc1, World.size_drew, Nat.reduceAdd] at hO); (try simp only [upd, updI, List.map_cons, List.map_nil, eq_self, if_true, if_false, reduceIte, Nat.add_eq_left, Nat.left_eq_add, Nat.reduceEqDiff, List.set_cons_zero, List.set_cons_succ, hG] at hO); clear hG; have hF := hO; (try simp only [Own, Item.Holds, apartI, CellsAt, Nat.reduceAdd, Nat.zero_add, List.mem_cons, List.not_mem_nil, or_false, forall_eq_or_imp, forall_eq, ne_eq, false_imp_iff, implies_true, and_true] at hF)) | (go_at_call 27; apply own_at hO; (repeat (first | (with_reducible exact hO) | (with_reducible apply Own.alloc) | (with_reducible apply Own.drew) | ((with_reducible apply Own.set_at); (focus (show _ ≤ _; omega))))); have hG := hF; clear hF; clear hO; intro hO; refine own_call hO (fun hB => alive_any _ (HT.out.below hB)) ?_; clear hO; intro w1 hO; (try simp only [World.size_alloc1, World.size_drew, Nat.reduceAdd] at hO); (try simp only [upd, updI, List.map_cons, List.map_nil, eq_self, if_true, if_false, reduceIte, Nat.add_eq_left, Nat.left_eq_add, Nat.reduceEqDiff, List.set_cons_zero, List.set_cons_succ, hG] at hO); clear hG; have hF := hO; (try simp only [Own, Item.Holds, apartI, CellsAt, Nat.reduceAdd, Nat.zero_add, List.mem_cons, List.not_mem_nil, or_false, forall_eq_or_imp, forall_eq, ne_eq, false_imp_iff, implies_true, and_true] at hF)))
      go_ret
      exact ⟨rfl, btr HB0.out (Own.base (by first | exact hO | (repeat (first | (with_reducible exact hO) | (with_reducible apply Own.alloc) | (with_reducible apply Own.drew) | ((with_reducible apply Own.set_at); (focus (show _ ≤ _; omega)))))))⟩
    · have hcb := caB_iff.1 hb8
      obtain ⟨sv, hsv⟩ : ∃ x, shL l st ha = x := ⟨_, rfl⟩
      have hsl : sv.length = n := by rw [← hsv]; unfold shL; rw [if_pos hcb.1]; simpa using hna
      have hue : u8 = rsN d :: sv := by rw [← hu8, ← hsv]; unfold caL; rw [if_pos hb8]
      obtain rfl : k8 = n + 1 := by rw [← hk8, hue]; simp [hsl]
      have hV' : CBool 32 voB wd := fun va v W hW => hV va v W (btr hb0 hW)
      have HVV := hid (fun va W (hW : Below wd.heap.size wd W) (h1 : SlAt W va (n + 1) 6 (vcC u8)) => (hV'.is (v := u8) (b := true) (by omega) (by rw [← hu8]; exact ca_vo hb8)) va W hW (by rw [hk8]; exact h1))
      have hM' : CShift 26 wd := fun va v st ha W hW => hM va v st ha W (btr hb0 hW)
      have HSH := hid (hM'.is (by omega) r2 r3 hcb.1 hsv)
      rw [hsl, hna] at HSH
      have HC := hid ((hC.to hb0).is hna hk8 n1 (by omega) (show icB l u8 = true by rw [← hu8]; exact ic_ca hb8))
      have HSV := hid (fun va vb W (h1 : SlAt W va n 6 (vcC sv)) (h2 : SlAt W vb n 6 (vcC sv)) => sameVoice_same va vb sv W (by rw [hsl]; exact h1) (by rw [hsl]; exact h2))
      have wn : IntKind.i64.wrap ((n : Int) + 1) = (n : Int) + 1 := IntWalk.i64_in _ (by omega)
      have HUE := hid hue
      clear hn h ht hI hS hV hM hC hb0 hs hO1 hv hu8 hk8 hb8 hna hl9 r1 r2 r3 n1 hcb hsv hsl hue hV' hM'
      go_wp2_with fail
      (go_at_call 29; apply own_at hO; (repeat (first | (with_reducible exact hO) | (with_reducible apply Own.alloc) | (with_reducible apply Own.drew) | ((with_reducible apply Own.set_at); (focus (show _ ≤ _; omega))))); have hG := hF; clear hF; clear hO; intro hO; refine own_call_rowB hO (fun hB => HI.out _ _ hB (HA.out.below hB)) ?_; clear hO; intro v w1 hO; (try simp only [World.size_alloc1, World.size_drew, Nat.reduceAdd] at hO); (try simp only [upd, updI, List.map_cons, List.map_nil, eq_self, if_true, if_false, reduceIte, Nat.add_eq_left, Nat.left_eq_add, Nat.reduceEqDiff, List.set_cons_zero, List.set_cons_succ, hG] at hO); clear hG; have hF := hO; (try simp only [Own, Item.Holds, apartI, CellsAt, Nat.reduceAdd, Nat.zero_add, List.mem_cons, List.not_mem_nil, or_false, forall_eq_or_imp, forall_eq, ne_eq, false_imp_iff, implies_true, and_true] at hF))
      obtain ⟨q3, c3, hv3, hq3, hq4⟩ := hO.row_open (by omega)
      subst hv3
      go_wp2_with (first | (go_at_call 30; apply own_at hO; (repeat (first | (with_reducible exact hO) | (with_reducible apply Own.alloc) | (with_reducible apply Own.drew) | ((with_reducible apply Own.set_at); (focus (show _ ≤ _; omega))))); have hG := hF; clear hF; clear hO; intro hO; refine own_call_rowB hO (fun hB => HS.out _ _ hB (HA.out.below hB)) ?_; clear hO; intro v w1 hO; (try simp only [World.size_alloc1, World.size_drew, Nat.reduceAdd] at hO); (try simp only [upd, updI, List.map_cons, List.map_nil, eq_self, if_true, if_false, reduceIte, Nat.add_eq_left, Nat.left_eq_add, Nat.reduceEqDiff, List.set_cons_zero, List.set_cons_succ, hG] at hO); clear hG; have hF := hO; (try simp only [Own, Item.Holds, apartI, CellsAt, Nat.reduceAdd, Nat.zero_add, List.mem_cons, List.not_mem_nil, or_false, forall_eq_or_imp, forall_eq, ne_eq, false_imp_iff, implies_true, and_true] at hF)) | (go_at_call 31; apply own_at hO; (repeat (first | (with_reducible exact hO) | (with_reducible apply Own.alloc) | (with_reducible apply Own.drew) | ((with_reducible apply Own.set_at); (focus (show _ ≤ _; omega))))); have hG := hF; clear hF; clear hO; intro hO; refine own_callO hO (fun hW => HG.out _ _ _ (SlAt.of_row hW.2.1.1) (SlAt.of_row hW.1.1)) ?_; clear hO; intro w1 hO; (try simp only [World.size_alloc1, World.size_drew, Nat.reduceAdd] at hO); (try simp only [upd, updI, List.map_cons, List.map_nil, eq_self, if_true, if_false, reduceIte, Nat.add_eq_left, Nat.left_eq_add, Nat.reduceEqDiff, List.set_cons_zero, List.set_cons_succ, hG] at hO); clear hG; have hF := hO; (try simp only [Own, Item.Holds, apartI, CellsAt, Nat.reduceAdd, Nat.zero_add, List.mem_cons, List.not_mem_nil, or_false, forall_eq_or_imp, forall_eq, ne_eq, false_imp_iff, implies_true, and_true] at hF)) | (go_at_call 26; apply own_at hO; (repeat (first | (with_reducible exact hO) | (with_reducible apply Own.alloc) | (with_reducible apply Own.drew) | ((with_reducible apply Own.set_at); (focus (show _ ≤ _; omega))))); have hG := hF; clear hF; clear hO; intro hO; refine own_call_rowB hO (fun hB => HSH.out _ _ hB (HA.out.below hB)) ?_; clear hO; intro v w1 hO; (try simp only [World.size_alloc1, World.size_drew, Nat.reduceAdd] at hO); (try simp only [upd, updI, List.map_cons, List.map_nil, eq_self, if_true, if_false, reduceIte, Nat.add_eq_left, Nat.left_eq_add, Nat.reduceEqDiff, List.set_cons_zero, List.set_cons_succ, hG] at hO); clear hG; have hF := hO; (try simp only [Own, Item.Holds, apartI, CellsAt, Nat.reduceAdd, Nat.zero_add, List.mem_cons, List.not_mem_nil, or_false, forall_eq_or_imp, forall_eq, ne_eq, false_imp_iff, implies_true, and_true] at hF)))
      (go_at_call 32; apply own_at hO; (repeat (first | (with_reducible exact hO) | (with_reducible apply Own.alloc) | (with_reducible apply Own.drew) | ((with_reducible apply Own.set_at); (focus (show _ ≤ _; omega))))); have hG := hF; clear hF; clear hO; intro hO; refine own_callO hO (fun hW => HVV.out _ _ hW.base (SlAt.of_row hW.2.2.1.1)) ?_; clear hO; intro w1 hO; (try simp only [World.size_alloc1, World.size_drew, Nat.reduceAdd] at hO); (try simp only [upd, updI, List.map_cons, List.map_nil, eq_self, if_true, if_false, reduceIte, Nat.add_eq_left, Nat.left_eq_add, Nat.reduceEqDiff, List.set_cons_zero, List.set_cons_succ, hG] at hO); clear hG; have hF := hO; (try simp only [Own, Item.Holds, apartI, CellsAt, Nat.reduceAdd, Nat.zero_add, List.mem_cons, List.not_mem_nil, or_false, forall_eq_or_imp, forall_eq, ne_eq, false_imp_iff, implies_true, and_true] at hF))
      obtain ⟨A4, c4, ht4⟩ := tl_ex q3 0 c3
      have HSW := hid (fun W (hW : SlAt W (.slice (some ⟨q3, 0, none⟩) (n + 1) c3) (n + 1) 6 (vcC u8)) (vb : Value) (h2 : SlAt W vb n 6 (vcC sv)) => HSV.out (.slice A4 n c4) vb W (by
        have := tl_at ht4 (by omega) hW
        rw [HUE.out] at this
        exact this) h2)
      obtain ⟨d0, d1, d2, d3, d4, d5⟩ := noteAt (SlAt.of_row hO.2.2.1.1) (j := 0) (x := rsN d) (by rw [HUE.out]; rfl)
      simp only [Nat.zero_mul, Nat.add_zero, Nat.zero_add, rsN] at d0 d4
      have hc9 : c3 ≤ 9223372036854775807 := by unfold maxLen at hq4; omega
      clear d1 d2 d3 d5 hq4
      by_cases hc : c3 = 1
      all_goals
        first | (obtain ⟨rfl, rfl⟩ := ht4.1 hc; subst hc; obtain rfl : n = 0 := by omega) | obtain ⟨rfl, rfl⟩ := ht4.2 hc
        clear ht4
        go_wp2_with (first | (go_at_call 31; apply own_at hO; (repeat (first | (with_reducible exact hO) | (with_reducible apply Own.alloc) | (with_reducible apply Own.drew) | ((with_reducible apply Own.set_at); (focus (show _ ≤ _; omega))))); have hG := hF; clear hF; clear hO; intro hO; refine own_callO hO (fun hW => HSW.out _ (SlAt.of_row hW.2.2.1.1) _ (SlAt.of_row hW.1.1)) ?_; clear hO; intro w1 hO; (try simp only [World.size_alloc1, World.size_drew, Nat.reduceAdd] at hO); (try simp only [upd, updI, List.map_cons, List.map_nil, eq_self, if_true, if_false, reduceIte, Nat.add_eq_left, Nat.left_eq_add, Nat.reduceEqDiff, List.set_cons_zero, List.set_cons_succ, hG] at hO); clear hG; have hF := hO; (try simp only [Own, Item.Holds, apartI, CellsAt, Nat.reduceAdd, Nat.zero_add, List.mem_cons, List.not_mem_nil, or_false, forall_eq_or_imp, forall_eq, ne_eq, false_imp_iff, implies_true, and_true] at hF)) | (go_at_call 33; apply own_at hO; (repeat (first | (with_reducible exact hO) | (with_reducible apply Own.alloc) | (with_reducible apply Own.drew) | ((with_reducible apply Own.set_at); (focus (show _ ≤ _; omega))))); have hG := hF; clear hF; clear hO; intro hO; refine own_callO hO (fun hW => HC.out _ _ _ hW.base (HA.out.below hW.base) (SlAt.of_row hW.2.2.1.1)) ?_; clear hO; intro w1 hO; (try simp only [World.size_alloc1, World.size_drew, Nat.reduceAdd] at hO); (try simp only [upd, updI, List.map_cons, List.map_nil, eq_self, if_true, if_false, reduceIte, Nat.add_eq_left, Nat.left_eq_add, Nat.reduceEqDiff, List.set_cons_zero, List.set_cons_succ, hG] at hO); clear hG; have hF := hO; (try simp only [Own, Item.Holds, apartI, CellsAt, Nat.reduceAdd, Nat.zero_add, List.mem_cons, List.not_mem_nil, or_false, forall_eq_or_imp, forall_eq, ne_eq, false_imp_iff, implies_true, and_true] at hF)))
        go_ret
        exact ⟨rfl, btr HB0.out (Own.base (by first | exact hO | (repeat (first | (with_reducible exact hO) | (with_reducible apply Own.alloc) | (with_reducible apply Own.drew) | ((with_reducible apply Own.set_at); (focus (show _ ≤ _; omega)))))))⟩
  · have hl' : (1048576 : Int) < n0 := by omega
    go_enter Tryd.func6, Tryd.ntmps6
    go_wp2
    go_ret
    exact ⟨rfl, Below.refl _ _⟩
end Go.Proofs.YtmkhpafcgobfhaaDoor
