/- The walk of FnLineNumber, from what the program's functions answer. -/
import Derived.Test.YtieoobanpllmgaaDoorDraws15N
import Derived.Test.YtieoobanpllmgaaDoorLaws15
import Derived.Test.YtieoobanpllmgaaDoorPure15P
import Derived.Test.YtieoobanpllmgaaDoorCon15
import Derived.Test.YtieoobanpllmgaaDoorCon14
import Derived.Test.YtieoobanpllmgaaDoorLawsPitch
import Derived.Test.YtieoobanpllmgaaDoorRegionD
namespace Go.Proofs.YtieoobanpllmgaaDoor
set_option linter.unusedSimpArgs false
set_option linter.unusedVariables false
set_option maxRecDepth 8000
open Go.RowKit

theorem keyI15 {x : Pt} {z : Int} (hz : kyP x = z) (W : World) (ht : TabH W) :
    Calls Tryd.prog 19 #[.agg #[.int .i64 x.s, .int .i64 x.a, .int .i64 x.o]] W fun e w' => e = .returned (.int .i64 z) ∧ Below W.heap.size W w' := by
  subst hz; exact keyI_any x.s x.a x.o W ht

set_option maxRecDepth 20000 in
set_option maxHeartbeats 16000000 in
theorem fnLineNumber_of (v : Value) (n0 : Nat) (w : World) (hn : n0 ≤ maxLen) (h : BytesB w w.heap.size v n0) (ht : TabH w)
    (hNu : CNu 16 w) (hCt : CCt 11 w) (hG : CLg 20 w) :
    Calls Tryd.prog 4 #[v] w fun e w' => e = .returned (.bool true) ∧ Below w.heap.size w w' := by
  obtain ⟨a0, c0, rfl⟩ := h.form
  have hn' : (n0 : Int) ≤ 9223372036854775807 := by unfold maxLen at hn; omega
  by_cases hl : n0 ≤ 1048576
  · have hl' : (n0 : Int) ≤ 1048576 := by omega
    go_enter Tryd.func4, Tryd.ntmps4
    go_wp2_with (go_at_call 15; refine (DrawLineNumber_any _ n0 _ hn h).mono ?_; rintro e wd ⟨f, u, c, lo, hi, m, hf, hc, h1, h6, hlo, hhi, hmb, rfl, hs, hb0⟩)
    have HT := hid (ht.below hb0)
    have HB0 := hid hb0
    have hO := Own.start wd
    have hF := True.intro
    obtain ⟨n, hnl⟩ : ∃ n, c.length = n := ⟨_, rfl⟩
    rw [hnl] at hs h1 h6
    have HSL := hid hs
    obtain ⟨A, cA, rfl⟩ := hs.form
    have f64 : r64 f := by unfold r64; omega
    have lo64 : r64 lo := by unfold r64; omega
    have hi64 : r64 hi := by unfold r64; omega
    have m64 : r64 m := by unfold r64; omega
    have mp64 : r64 (m + 1) := by unfold r64; omega
    have wm : IntKind.i64.wrap (m + 1) = m + 1 := IntWalk.i64_in _ (by omega)
    obtain ⟨z, hz⟩ : ∃ z, clZ f c lo hi = z := ⟨_, rfl⟩
    obtain ⟨l, hl9⟩ : ∃ l, lnZ f c lo hi m = l := ⟨_, rfl⟩
    obtain ⟨b, hb⟩ : ∃ b, lbB f c lo hi m = b := ⟨_, rfl⟩
    obtain ⟨k, hk⟩ : ∃ k, l.length = k := ⟨_, rfl⟩
    have HI := hid ((hNu.to hb0).is f64 lo64 hi64 m64 hnl (by omega) hl9 hk hb)
    have HS := hid ((numberS_C wd).is f64 lo64 hi64 m64 hnl (by omega) hl9 hk hb)
    have HZ := hid ((hCt.to hb0).is f64 lo64 hi64 hnl (by omega) hz)
    cases b
    · obtain rfl : k = 0 := by
        rw [← hk, ← hl9]
        unfold lnZ
        rw [hb]; rfl
      have hmz : m < 0 ∨ (¬ m < 0 ∧ z ≤ m) := by
        unfold lbB at hb
        rw [hz] at hb
        simp at hb
        omega
      clear hn h ht hNu hCt hG hb0 hc hs hnl f64 lo64 hi64 m64 mp64 hf hlo hhi h1 h6 hl9 hb hk hmb wm hz
      rcases hmz with h0 | ⟨h0, h1⟩
      · go_wp2_with (first | ((go_at_call 16; apply own_at hO; (repeat (first | (with_reducible exact hO) | (with_reducible apply Own.alloc) | (with_reducible apply Own.drew) | ((with_reducible apply Own.set_at); (focus (show _ ≤ _; omega))))); have hG := hF; clear hF; clear hO; intro hO; refine own_call_rowB hO (fun hB => HI.out _ _ hB (HSL.out.below hB)) ?_; clear hO; intro v w1 hO; (try simp only [World.size_alloc1, World.size_drew, Nat.reduceAdd] at hO); (try simp only [upd, updI, List.map_cons, List.map_nil, eq_self, if_true, if_false, reduceIte, Nat.add_eq_left, Nat.left_eq_add, Nat.reduceEqDiff, List.set_cons_zero, List.set_cons_succ, hG] at hO); clear hG; have hF := hO; (try simp only [Own, Item.Holds, apartI, CellsAt, Nat.reduceAdd, Nat.zero_add, List.mem_cons, List.not_mem_nil, or_false, forall_eq_or_imp, forall_eq, ne_eq, false_imp_iff, implies_true, and_true] at hF)); obtain ⟨A1, k1, hv1⟩ := (SlAt.of_row hO.1.1).form; subst hv1; clear hF; have hF := hO; (try simp only [Own, Item.Holds, apartI, CellsAt, Nat.reduceAdd, Nat.zero_add, List.mem_cons, List.not_mem_nil, or_false, forall_eq_or_imp, forall_eq, ne_eq, false_imp_iff, implies_true, and_true] at hF)) | ((go_at_call 17; apply own_at hO; (repeat (first | (with_reducible exact hO) | (with_reducible apply Own.alloc) | (with_reducible apply Own.drew) | ((with_reducible apply Own.set_at); (focus (show _ ≤ _; omega))))); have hG := hF; clear hF; clear hO; intro hO; refine own_call_rowB hO (fun hB => HS.out _ _ hB (HSL.out.below hB)) ?_; clear hO; intro v w1 hO; (try simp only [World.size_alloc1, World.size_drew, Nat.reduceAdd] at hO); (try simp only [upd, updI, List.map_cons, List.map_nil, eq_self, if_true, if_false, reduceIte, Nat.add_eq_left, Nat.left_eq_add, Nat.reduceEqDiff, List.set_cons_zero, List.set_cons_succ, hG] at hO); clear hG; have hF := hO; (try simp only [Own, Item.Holds, apartI, CellsAt, Nat.reduceAdd, Nat.zero_add, List.mem_cons, List.not_mem_nil, or_false, forall_eq_or_imp, forall_eq, ne_eq, false_imp_iff, implies_true, and_true] at hF)); obtain ⟨A2, k2, hv2⟩ := (SlAt.of_row hO.1.1).form; subst hv2; clear hF; have hF := hO; (try simp only [Own, Item.Holds, apartI, CellsAt, Nat.reduceAdd, Nat.zero_add, List.mem_cons, List.not_mem_nil, or_false, forall_eq_or_imp, forall_eq, ne_eq, false_imp_iff, implies_true, and_true] at hF)) | (go_at_call 18; apply own_at hO; (repeat (first | (with_reducible exact hO) | (with_reducible apply Own.alloc) | (with_reducible apply Own.drew) | ((with_reducible apply Own.set_at); (focus (show _ ≤ _; omega))))); have hG := hF; clear hF; clear hO; intro hO; refine own_callO hO (fun hW => samePS15 (SlAt.of_row hW.2.1.1) (SlAt.of_row hW.1.1)) ?_; clear hO; intro w1 hO; (try simp only [World.size_alloc1, World.size_drew, Nat.reduceAdd] at hO); (try simp only [upd, updI, List.map_cons, List.map_nil, eq_self, if_true, if_false, reduceIte, Nat.add_eq_left, Nat.left_eq_add, Nat.reduceEqDiff, List.set_cons_zero, List.set_cons_succ, hG] at hO); clear hG; have hF := hO; (try simp only [Own, Item.Holds, apartI, CellsAt, Nat.reduceAdd, Nat.zero_add, List.mem_cons, List.not_mem_nil, or_false, forall_eq_or_imp, forall_eq, ne_eq, false_imp_iff, implies_true, and_true] at hF)) | (go_at_call 11; apply own_at hO; (repeat (first | (with_reducible exact hO) | (with_reducible apply Own.alloc) | (with_reducible apply Own.drew) | ((with_reducible apply Own.set_at); (focus (show _ ≤ _; omega))))); have hG := hF; clear hF; clear hO; intro hO; refine own_call hO (fun hB => HZ.out _ _ hB (HSL.out.below hB)) ?_; clear hO; intro w1 hO; (try simp only [World.size_alloc1, World.size_drew, Nat.reduceAdd] at hO); (try simp only [upd, updI, List.map_cons, List.map_nil, eq_self, if_true, if_false, reduceIte, Nat.add_eq_left, Nat.left_eq_add, Nat.reduceEqDiff, List.set_cons_zero, List.set_cons_succ, hG] at hO); clear hG; have hF := hO; (try simp only [Own, Item.Holds, apartI, CellsAt, Nat.reduceAdd, Nat.zero_add, List.mem_cons, List.not_mem_nil, or_false, forall_eq_or_imp, forall_eq, ne_eq, false_imp_iff, implies_true, and_true] at hF)) | (go_at_call 13; apply own_at hO; (repeat (first | (with_reducible exact hO) | (with_reducible apply Own.alloc) | (with_reducible apply Own.drew) | ((with_reducible apply Own.set_at); (focus (show _ ≤ _; omega))))); have hG := hF; clear hF; clear hO; intro hO; refine own_call hO (fun hB => alive_any _ (HT.out.below hB)) ?_; clear hO; intro w1 hO; (try simp only [World.size_alloc1, World.size_drew, Nat.reduceAdd] at hO); (try simp only [upd, updI, List.map_cons, List.map_nil, eq_self, if_true, if_false, reduceIte, Nat.add_eq_left, Nat.left_eq_add, Nat.reduceEqDiff, List.set_cons_zero, List.set_cons_succ, hG] at hO); clear hG; have hF := hO; (try simp only [Own, Item.Holds, apartI, CellsAt, Nat.reduceAdd, Nat.zero_add, List.mem_cons, List.not_mem_nil, or_false, forall_eq_or_imp, forall_eq, ne_eq, false_imp_iff, implies_true, and_true] at hF)))
        go_ret
        exact ⟨rfl, btr HB0.out (Own.base (by first | exact hO | (repeat (first | (with_reducible exact hO) | (with_reducible apply Own.alloc) | (with_reducible apply Own.drew) | ((with_reducible apply Own.set_at); (focus (show _ ≤ _; omega)))))))⟩
      · go_wp2_with (first | ((go_at_call 16; apply own_at hO; (repeat (first | (with_reducible exact hO) | (with_reducible apply Own.alloc) | (with_reducible apply Own.drew) | ((with_reducible apply Own.set_at); (focus (show _ ≤ _; omega))))); have hG := hF; clear hF; clear hO; intro hO; refine own_call_rowB hO (fun hB => HI.out _ _ hB (HSL.out.below hB)) ?_; clear hO; intro v w1 hO; (try simp only [World.size_alloc1, World.size_drew, Nat.reduceAdd] at hO); (try simp only [upd, updI, List.map_cons, List.map_nil, eq_self, if_true, if_false, reduceIte, Nat.add_eq_left, Nat.left_eq_add, Nat.reduceEqDiff, List.set_cons_zero, List.set_cons_succ, hG] at hO); clear hG; have hF := hO; (try simp only [Own, Item.Holds, apartI, CellsAt, Nat.reduceAdd, Nat.zero_add, List.mem_cons, List.not_mem_nil, or_false, forall_eq_or_imp, forall_eq, ne_eq, false_imp_iff, implies_true, and_true] at hF)); obtain ⟨A1, k1, hv1⟩ := (SlAt.of_row hO.1.1).form; subst hv1; clear hF; have hF := hO; (try simp only [Own, Item.Holds, apartI, CellsAt, Nat.reduceAdd, Nat.zero_add, List.mem_cons, List.not_mem_nil, or_false, forall_eq_or_imp, forall_eq, ne_eq, false_imp_iff, implies_true, and_true] at hF)) | ((go_at_call 17; apply own_at hO; (repeat (first | (with_reducible exact hO) | (with_reducible apply Own.alloc) | (with_reducible apply Own.drew) | ((with_reducible apply Own.set_at); (focus (show _ ≤ _; omega))))); have hG := hF; clear hF; clear hO; intro hO; refine own_call_rowB hO (fun hB => HS.out _ _ hB (HSL.out.below hB)) ?_; clear hO; intro v w1 hO; (try simp only [World.size_alloc1, World.size_drew, Nat.reduceAdd] at hO); (try simp only [upd, updI, List.map_cons, List.map_nil, eq_self, if_true, if_false, reduceIte, Nat.add_eq_left, Nat.left_eq_add, Nat.reduceEqDiff, List.set_cons_zero, List.set_cons_succ, hG] at hO); clear hG; have hF := hO; (try simp only [Own, Item.Holds, apartI, CellsAt, Nat.reduceAdd, Nat.zero_add, List.mem_cons, List.not_mem_nil, or_false, forall_eq_or_imp, forall_eq, ne_eq, false_imp_iff, implies_true, and_true] at hF)); obtain ⟨A2, k2, hv2⟩ := (SlAt.of_row hO.1.1).form; subst hv2; clear hF; have hF := hO; (try simp only [Own, Item.Holds, apartI, CellsAt, Nat.reduceAdd, Nat.zero_add, List.mem_cons, List.not_mem_nil, or_false, forall_eq_or_imp, forall_eq, ne_eq, false_imp_iff, implies_true, and_true] at hF)) | (go_at_call 18; apply own_at hO; (repeat (first | (with_reducible exact hO) | (with_reducible apply Own.alloc) | (with_reducible apply Own.drew) | ((with_reducible apply Own.set_at); (focus (show _ ≤ _; omega))))); have hG := hF; clear hF; clear hO; intro hO; refine own_callO hO (fun hW => samePS15 (SlAt.of_row hW.2.1.1) (SlAt.of_row hW.1.1)) ?_; clear hO; intro w1 hO; (try simp only [World.size_alloc1, World.size_drew, Nat.reduceAdd] at hO); (try simp only [upd, updI, List.map_cons, List.map_nil, eq_self, if_true, if_false, reduceIte, Nat.add_eq_left, Nat.left_eq_add, Nat.reduceEqDiff, List.set_cons_zero, List.set_cons_succ, hG] at hO); clear hG; have hF := hO; (try simp only [Own, Item.Holds, apartI, CellsAt, Nat.reduceAdd, Nat.zero_add, List.mem_cons, List.not_mem_nil, or_false, forall_eq_or_imp, forall_eq, ne_eq, false_imp_iff, implies_true, and_true] at hF)) | (go_at_call 11; apply own_at hO; (repeat (first | (with_reducible exact hO) | (with_reducible apply Own.alloc) | (with_reducible apply Own.drew) | ((with_reducible apply Own.set_at); (focus (show _ ≤ _; omega))))); have hG := hF; clear hF; clear hO; intro hO; refine own_call hO (fun hB => HZ.out _ _ hB (HSL.out.below hB)) ?_; clear hO; intro w1 hO; (try simp only [World.size_alloc1, World.size_drew, Nat.reduceAdd] at hO); (try simp only [upd, updI, List.map_cons, List.map_nil, eq_self, if_true, if_false, reduceIte, Nat.add_eq_left, Nat.left_eq_add, Nat.reduceEqDiff, List.set_cons_zero, List.set_cons_succ, hG] at hO); clear hG; have hF := hO; (try simp only [Own, Item.Holds, apartI, CellsAt, Nat.reduceAdd, Nat.zero_add, List.mem_cons, List.not_mem_nil, or_false, forall_eq_or_imp, forall_eq, ne_eq, false_imp_iff, implies_true, and_true] at hF)) | (go_at_call 13; apply own_at hO; (repeat (first | (with_reducible exact hO) | (with_reducible apply Own.alloc) | (with_reducible apply Own.drew) | ((with_reducible apply Own.set_at); (focus (show _ ≤ _; omega))))); have hG := hF; clear hF; clear hO; intro hO; refine own_call hO (fun hB => alive_any _ (HT.out.below hB)) ?_; clear hO; intro w1 hO; (try simp only [World.size_alloc1, World.size_drew, Nat.reduceAdd] at hO); (try simp only [upd, updI, List.map_cons, List.map_nil, eq_self, if_true, if_false, reduceIte, Nat.add_eq_left, Nat.left_eq_add, Nat.reduceEqDiff, List.set_cons_zero, List.set_cons_succ, hG] at hO); clear hG; have hF := hO; (try simp only [Own, Item.Holds, apartI, CellsAt, Nat.reduceAdd, Nat.zero_add, List.mem_cons, List.not_mem_nil, or_false, forall_eq_or_imp, forall_eq, ne_eq, false_imp_iff, implies_true, and_true] at hF)))
        go_ret
        exact ⟨rfl, btr HB0.out (Own.base (by first | exact hO | (repeat (first | (with_reducible exact hO) | (with_reducible apply Own.alloc) | (with_reducible apply Own.drew) | ((with_reducible apply Own.set_at); (focus (show _ ≤ _; omega)))))))⟩
    · have hlg := ln_good hb
      have hkn : k = n := by rw [← hk, ← hl9, hlg.2.2.2.1]; exact hnl
      subst hkn
      have hgood := ln_none hb
      have hkey : ∀ x ∈ l, lo ≤ kyP x ∧ kyP x ≤ hi := fun x hx => by
        rw [← hl9] at hx
        exact (hlg.2.2.2.2 x hx).2
      rw [hl9] at hgood
      have HGG := hid ((hG.to hb0).is hnl hk (by omega) (by omega) hgood)
      obtain ⟨l2, hl2⟩ : ∃ l, lnZ f c lo hi (m + 1) = l := ⟨_, rfl⟩
      obtain ⟨b2, hb2⟩ : ∃ b, lbB f c lo hi (m + 1) = b := ⟨_, rfl⟩
      obtain ⟨k2, hk2⟩ : ∃ k, l2.length = k := ⟨_, rfl⟩
      have HI2 := hid ((hNu.to hb0).is f64 lo64 hi64 mp64 hnl (by omega) hl2 hk2 hb2)
      have HKEY := hid hkey
      have HK := hid (And.intro hk hk2)
      have hmz : 0 ≤ m ∧ m < z := by
        have := hb
        unfold lbB at this
        rw [hz] at this
        simpa using this
      have hb2z : b2 = decide (m + 1 < z) := by
        rw [← hb2]
        unfold lbB
        rw [hz, decide_eq_true (show 0 ≤ m + 1 by omega), Bool.true_and]
      have HLEX := hid (fun (e : b2 = true) => show LexK l l2 by
        have := ln_later hb (hb2.trans e)
        rwa [hl9, hl2] at this)
      have HB2 := hid (show b2 = false → k2 = 0 from fun e => by
        rw [← hk2, ← hl2]
        unfold lnZ
        rw [hb2, e]; rfl)
      have HMZ := hid (And.intro hmz hb2z)
      have hk1 : 1 ≤ k := h1
      clear hn h ht hNu hCt hG hb0 hc hs hnl f64 lo64 hi64 m64 mp64 hf hlo hhi h6 hl9 hb hk hmb hz hlg hgood hkey hl2 hb2 hk2 hmz hb2z h1
      go_wp2_with (first | ((go_at_call 16; apply own_at hO; (repeat (first | (with_reducible exact hO) | (with_reducible apply Own.alloc) | (with_reducible apply Own.drew) | ((with_reducible apply Own.set_at); (focus (show _ ≤ _; omega))))); have hG := hF; clear hF; clear hO; intro hO; refine own_call_rowB hO (fun hB => HI.out _ _ hB (HSL.out.below hB)) ?_; clear hO; intro v w1 hO; (try simp only [World.size_alloc1, World.size_drew, Nat.reduceAdd] at hO); (try simp only [upd, updI, List.map_cons, List.map_nil, eq_self, if_true, if_false, reduceIte, Nat.add_eq_left, Nat.left_eq_add, Nat.reduceEqDiff, List.set_cons_zero, List.set_cons_succ, hG] at hO); clear hG; have hF := hO; (try simp only [Own, Item.Holds, apartI, CellsAt, Nat.reduceAdd, Nat.zero_add, List.mem_cons, List.not_mem_nil, or_false, forall_eq_or_imp, forall_eq, ne_eq, false_imp_iff, implies_true, and_true] at hF)); clear HI; obtain ⟨A1, k1, hv1⟩ := (SlAt.of_row hO.1.1).form; subst hv1; clear hF; have hF := hO; (try simp only [Own, Item.Holds, apartI, CellsAt, Nat.reduceAdd, Nat.zero_add, List.mem_cons, List.not_mem_nil, or_false, forall_eq_or_imp, forall_eq, ne_eq, false_imp_iff, implies_true, and_true] at hF)) | ((go_at_call 17; apply own_at hO; (repeat (first | (with_reducible exact hO) | (with_reducible apply Own.alloc) | (with_reducible apply Own.drew) | ((with_reducible apply Own.set_at); (focus (show _ ≤ _; omega))))); have hG := hF; clear hF; clear hO; intro hO; refine own_call_rowB hO (fun hB => HS.out _ _ hB (HSL.out.below hB)) ?_; clear hO; intro v w1 hO; (try simp only [World.size_alloc1, World.size_drew, Nat.reduceAdd] at hO); (try simp only [upd, updI, List.map_cons, List.map_nil, eq_self, if_true, if_false, reduceIte, Nat.add_eq_left, Nat.left_eq_add, Nat.reduceEqDiff, List.set_cons_zero, List.set_cons_succ, hG] at hO); clear hG; have hF := hO; (try simp only [Own, Item.Holds, apartI, CellsAt, Nat.reduceAdd, Nat.zero_add, List.mem_cons, List.not_mem_nil, or_false, forall_eq_or_imp, forall_eq, ne_eq, false_imp_iff, implies_true, and_true] at hF)); clear HS; obtain ⟨A2, k3, hv2⟩ := (SlAt.of_row hO.1.1).form; subst hv2; clear hF; have hF := hO; (try simp only [Own, Item.Holds, apartI, CellsAt, Nat.reduceAdd, Nat.zero_add, List.mem_cons, List.not_mem_nil, or_false, forall_eq_or_imp, forall_eq, ne_eq, false_imp_iff, implies_true, and_true] at hF)) | ((go_at_call 18; apply own_at hO; (repeat (first | (with_reducible exact hO) | (with_reducible apply Own.alloc) | (with_reducible apply Own.drew) | ((with_reducible apply Own.set_at); (focus (show _ ≤ _; omega))))); have hG := hF; clear hF; clear hO; intro hO; refine own_callO hO (fun hW => samePS15 (SlAt.of_row hW.2.1.1) (SlAt.of_row hW.1.1)) ?_; clear hO; intro w1 hO; (try simp only [World.size_alloc1, World.size_drew, Nat.reduceAdd] at hO); (try simp only [upd, updI, List.map_cons, List.map_nil, eq_self, if_true, if_false, reduceIte, Nat.add_eq_left, Nat.left_eq_add, Nat.reduceEqDiff, List.set_cons_zero, List.set_cons_succ, hG] at hO); clear hG; have hF := hO; (try simp only [Own, Item.Holds, apartI, CellsAt, Nat.reduceAdd, Nat.zero_add, List.mem_cons, List.not_mem_nil, or_false, forall_eq_or_imp, forall_eq, ne_eq, false_imp_iff, implies_true, and_true] at hF)); replace hO := hO.drop; clear hF; have hF := hO; (try simp only [Own, Item.Holds, apartI, CellsAt, Nat.reduceAdd, Nat.zero_add, List.mem_cons, List.not_mem_nil, or_false, forall_eq_or_imp, forall_eq, ne_eq, false_imp_iff, implies_true, and_true] at hF)) | (go_at_call 11; apply own_at hO; (repeat (first | (with_reducible exact hO) | (with_reducible apply Own.alloc) | (with_reducible apply Own.drew) | ((with_reducible apply Own.set_at); (focus (show _ ≤ _; omega))))); have hG := hF; clear hF; clear hO; intro hO; refine own_call hO (fun hB => HZ.out _ _ hB (HSL.out.below hB)) ?_; clear hO; intro w1 hO; (try simp only [World.size_alloc1, World.size_drew, Nat.reduceAdd] at hO); (try simp only [upd, updI, List.map_cons, List.map_nil, eq_self, if_true, if_false, reduceIte, Nat.add_eq_left, Nat.left_eq_add, Nat.reduceEqDiff, List.set_cons_zero, List.set_cons_succ, hG] at hO); clear hG; have hF := hO; (try simp only [Own, Item.Holds, apartI, CellsAt, Nat.reduceAdd, Nat.zero_add, List.mem_cons, List.not_mem_nil, or_false, forall_eq_or_imp, forall_eq, ne_eq, false_imp_iff, implies_true, and_true] at hF)))
      obtain ⟨q1, kk1, hv1, hq1, hq2⟩ := hO.row_open (by omega)
      cases hv1
      have hq3 : k1 ≤ 9223372036854775807 := by unfold maxLen at hq2; omega
      clear hq2 hF HZ
      go_loopw [13] (fun e wr => ∃ i : Nat, i ≤ k ∧ e = .int .i64 i ∧ Own wd.heap.size (Below wd.heap.size wd) wr [.row 37 3 (.slice (some ⟨q1, 0, none⟩) k k1) k (pcC l)]) (fun e _ => k - (intOf e).toNat)
      case atStart => exact ⟨0, by omega, rfl, hO⟩
      case round =>
        clear hO
        obtain ⟨i, hi9, rfl, hO⟩ := hrel
        have hF := True.intro
        by_cases he : i = k
        · subst he
          go_wp2_with fail
          (go_at_call 16; apply own_at hO; (repeat (first | (with_reducible exact hO) | (with_reducible apply Own.alloc) | (with_reducible apply Own.drew) | ((with_reducible apply Own.set_at); (focus (show _ ≤ _; omega))))); have hG := hF; clear hF; clear hO; intro hO; refine own_call_rowB hO (fun hB => HI2.out _ _ hB (HSL.out.below hB)) ?_; clear hO; intro v w1 hO; (try simp only [World.size_alloc1, World.size_drew, Nat.reduceAdd] at hO); (try simp only [upd, updI, List.map_cons, List.map_nil, eq_self, if_true, if_false, reduceIte, Nat.add_eq_left, Nat.left_eq_add, Nat.reduceEqDiff, List.set_cons_zero, List.set_cons_succ, hG] at hO); clear hG; have hF := hO; (try simp only [Own, Item.Holds, apartI, CellsAt, Nat.reduceAdd, Nat.zero_add, List.mem_cons, List.not_mem_nil, or_false, forall_eq_or_imp, forall_eq, ne_eq, false_imp_iff, implies_true, and_true] at hF))
          obtain ⟨A4, k4, hv4⟩ := (SlAt.of_row hO.1.1).form
          subst hv4
          clear HI2 hF
          have hF := hO; (try simp only [Own, Item.Holds, apartI, CellsAt, Nat.reduceAdd, Nat.zero_add, List.mem_cons, List.not_mem_nil, or_false, forall_eq_or_imp, forall_eq, ne_eq, false_imp_iff, implies_true, and_true] at hF)
          cases b2
          · obtain rfl := HB2.out rfl
            have g1 : ¬ m + 1 < z := by have := HMZ.out.2; simp at this; omega
            have g2 : decide (m + 1 < z) = false := decide_eq_false g1
            go_wp2_with fail
            go_loopw [17, 18] (fun a e wr => e = .int .i64 0 ∧ a = .bool true ∧ Own wd.heap.size (Below wd.heap.size wd) wr [.row 37 3 (.slice A4 0 k4) 0 (pcC l2), .row 37 3 (.slice (some ⟨q1, 0, none⟩) i k1) i (pcC l)]) (fun _ _ _ => 0)
            case atStart => exact ⟨rfl, rfl, hO⟩
            case round =>
              clear hO hF
              obtain ⟨rfl, rfl, hO⟩ := hrel
              have hF := hO; (try simp only [Own, Item.Holds, apartI, CellsAt, Nat.reduceAdd, Nat.zero_add, List.mem_cons, List.not_mem_nil, or_false, forall_eq_or_imp, forall_eq, ne_eq, false_imp_iff, implies_true, and_true] at hF)
              go_wp2_with (go_at_call 20; apply own_at hO; (repeat (first | (with_reducible exact hO) | (with_reducible apply Own.alloc) | (with_reducible apply Own.drew) | ((with_reducible apply Own.set_at); (focus (show _ ≤ _; omega))))); have hG := hF; clear hF; clear hO; intro hO; refine own_callO hO (fun hW => HGG.out _ _ _ hW.base (HSL.out.below hW.base) (SlAt.of_row hW.2.1.1)) ?_; clear hO; intro w1 hO; (try simp only [World.size_alloc1, World.size_drew, Nat.reduceAdd] at hO); (try simp only [upd, updI, List.map_cons, List.map_nil, eq_self, if_true, if_false, reduceIte, Nat.add_eq_left, Nat.left_eq_add, Nat.reduceEqDiff, List.set_cons_zero, List.set_cons_succ, hG] at hO); clear hG; have hF := hO; (try simp only [Own, Item.Holds, apartI, CellsAt, Nat.reduceAdd, Nat.zero_add, List.mem_cons, List.not_mem_nil, or_false, forall_eq_or_imp, forall_eq, ne_eq, false_imp_iff, implies_true, and_true] at hF))
              go_ret
              exact ⟨rfl, btr HB0.out (Own.base (by first | exact hO | (repeat (first | (with_reducible exact hO) | (with_reducible apply Own.alloc) | (with_reducible apply Own.drew) | ((with_reducible apply Own.set_at); (focus (show _ ≤ _; omega)))))))⟩
          · have g1 : m + 1 < z := by have := HMZ.out.2; simp at this; omega
            have g2 : decide (m + 1 < z) = true := decide_eq_true g1
            obtain ⟨d, x0, y0, hd1, hd2, hd3, hd4⟩ := HLEX.out rfl
            have hdk : d < i := by rw [← HK.out.1]; exact (List.getElem?_eq_some_iff.1 hd2).1
            have hdk2 : d < k2 := by rw [← HK.out.2]; exact (List.getElem?_eq_some_iff.1 hd3).1
            have HD1 := hid hd1
            have HD2 := hid (And.intro hd2 hd3)
            have HD4 := hid hd4
            obtain ⟨q4, kk4, hv4, hq4, hq5⟩ := hO.row_open (by omega)
            cases hv4
            have hq6 : k4 ≤ 9223372036854775807 := by unfold maxLen at hq5; omega
            clear hd1 hd2 hd3 hd4 hq5 hF HLEX
            have hF := True.intro
            go_wp2_with fail
            go_loopw [17, 18] (fun a e wr => ∃ j : Nat, j ≤ d ∧ e = .int .i64 j ∧ a = .bool false ∧ Own wd.heap.size (Below wd.heap.size wd) wr [.row 37 3 (.slice (some ⟨q4, 0, none⟩) k2 k4) k2 (pcC l2), .row 37 3 (.slice (some ⟨q1, 0, none⟩) i k1) i (pcC l)]) (fun _ e _ => d + 1 - (intOf e).toNat)
            case atStart => exact ⟨0, by omega, rfl, rfl, hO⟩
            case round =>
              clear hO hF
              obtain ⟨j, hj, rfl, rfl, hO⟩ := hrel
              have hF := True.intro
              have j0 : (0 : Int) ≤ (j : Int) := by omega
              have j1 : (j : Int) < (i : Int) := by omega
              have j2 : (j : Int) < (k2 : Int) := by omega
              have j3 : j < i := by omega
              have j4 : j < k2 := by omega
              by_cases hjd : j = d
              · subst hjd
                obtain ⟨zx, hzx⟩ : ∃ z, kyP x0 = z := ⟨_, rfl⟩
                obtain ⟨zy, hzy⟩ : ∃ z, kyP y0 = z := ⟨_, rfl⟩
                have HKX := hid (fun W (hW : Below wd.heap.size wd W) => keyI15 hzx W (HT.out.below hW))
                have HKY := hid (fun W (hW : Below wd.heap.size wd W) => keyI15 hzy W (HT.out.below hW))
                have hlt : zx < zy := by have := HD4.out; omega
                have hxy : ¬ y0 = x0 := fun e => by subst e; omega
                have hne : ∀ {α : Type} (A B : α), (if y0.s = x0.s then (if y0.a = x0.a then (if y0.o = x0.o then A else B) else B) else B) = B := fun A B => by
                  split
                  · rename_i e1
                    split
                    · rename_i e2
                      split
                      · rename_i e3
                        exact absurd (by cases y0; cases x0; simp at e1 e2 e3; rw [e1, e2, e3]) hxy
                      · rfl
                    · rfl
                  · rfl
                clear hzx hzy hxy hj
                go_wp2_with fail
                apply own_code hO
                (repeat (first | (with_reducible exact hO) | (with_reducible apply Own.alloc) | (with_reducible apply Own.drew) | ((with_reducible apply Own.set_at); (focus (show _ ≤ _; omega)))))
                have hG := hF; clear hF; clear hO; intro hO
                (try simp only [World.size_alloc1, World.size_drew, Nat.reduceAdd] at hO); (try simp only [upd, updI, List.map_cons, List.map_nil, eq_self, if_true, if_false, reduceIte, Nat.add_eq_left, Nat.left_eq_add, Nat.reduceEqDiff, List.set_cons_zero, List.set_cons_succ, hG] at hO); clear hG
                refine region_own (X := fun _ => True) [] (by kernel_rfl) (hO) (trivial) (by first | exact XStab.true | exact XStab.rd | exact XStab.rdIf) ?_
                clear hO
                refine Sim.sP (i := 0) (d := some 125) (h := ?_)
                refine Sim.sP (i := 1) (d := some 126) (h := ?_)
                refine Sim.sP (i := 2) (d := some 127) (h := ?_)
                refine Sim.sO (i := 3) (d := some 128) (v := ?_) (hy := ?_) (h := ?_)
                rotate_left
                · first | refine Or.inl ⟨by rfl, fun w hO => ?_⟩ | (refine Or.inr ⟨by rfl, ?_⟩; with_reducible rfl)
                  first | done | (have hF := hO; (try simp only [Own, Item.Holds, apartI, CellsAt, Nat.reduceAdd, Nat.zero_add, List.mem_cons, List.not_mem_nil, or_false, forall_eq_or_imp, forall_eq, ne_eq, false_imp_iff, implies_true, and_true] at hF); ((have e0 := hO.row_cell (pcC_at HD2.out.2).1; have e1 := hO.row_cell (pcC_at HD2.out.2).2.1; have e2 := hO.row_cell (pcC_at HD2.out.2).2.2; have g0 := hO.2.row_cell (pcC_at HD2.out.1).1; have g1 := hO.2.row_cell (pcC_at HD2.out.1).2.1; have g2 := hO.2.row_cell (pcC_at HD2.out.1).2.2)); refine Out.same ?_; go_simp; all_goals with_reducible rfl)
                refine Sim.sP (i := 4) (d := some 129) (h := ?_)
                refine Sim.sP (i := 5) (d := some 130) (h := ?_)
                refine Sim.sP (i := 6) (d := some 131) (h := ?_)
                refine Sim.sO (i := 7) (d := some 132) (v := ?_) (hy := ?_) (h := ?_)
                rotate_left
                · first | refine Or.inl ⟨by rfl, fun w hO => ?_⟩ | (refine Or.inr ⟨by rfl, ?_⟩; with_reducible rfl)
                  first | done | (have hF := hO; (try simp only [Own, Item.Holds, apartI, CellsAt, Nat.reduceAdd, Nat.zero_add, List.mem_cons, List.not_mem_nil, or_false, forall_eq_or_imp, forall_eq, ne_eq, false_imp_iff, implies_true, and_true] at hF); ((have e0 := hO.row_cell (pcC_at HD2.out.2).1; have e1 := hO.row_cell (pcC_at HD2.out.2).2.1; have e2 := hO.row_cell (pcC_at HD2.out.2).2.2; have g0 := hO.2.row_cell (pcC_at HD2.out.1).1; have g1 := hO.2.row_cell (pcC_at HD2.out.1).2.1; have g2 := hO.2.row_cell (pcC_at HD2.out.1).2.2)); refine Out.same ?_; go_simp; all_goals with_reducible rfl)
                refine Sim.sP (i := 8) (d := some 133) (h := ?_)
                refine Sim.done (by kernel_rfl) (fun w1 hO hX => ?_) _
                (try simp only [World.size_alloc1, World.size_drew, Nat.reduceAdd] at hO); (try simp only [upd, updI, List.map_cons, List.map_nil, eq_self, if_true, if_false, reduceIte, Nat.add_eq_left, Nat.left_eq_add, Nat.reduceEqDiff, List.set_cons_zero, List.set_cons_succ] at hO)
                have hF := hO; (try simp only [Own, Item.Holds, apartI, CellsAt, Nat.reduceAdd, Nat.zero_add, List.mem_cons, List.not_mem_nil, or_false, forall_eq_or_imp, forall_eq, ne_eq, false_imp_iff, implies_true, and_true] at hF)
                go_wp2_with fail
                apply own_code hO
                (repeat (first | (with_reducible exact hO) | (with_reducible apply Own.alloc) | (with_reducible apply Own.drew) | ((with_reducible apply Own.set_at); (focus (show _ ≤ _; omega)))))
                have hG := hF; clear hF; clear hO; intro hO
                (try simp only [World.size_alloc1, World.size_drew, Nat.reduceAdd] at hO); (try simp only [upd, updI, List.map_cons, List.map_nil, eq_self, if_true, if_false, reduceIte, Nat.add_eq_left, Nat.left_eq_add, Nat.reduceEqDiff, List.set_cons_zero, List.set_cons_succ, hG] at hO); clear hG
                refine region_own (X := fun _ => True) [] (by kernel_rfl) (hO) (trivial) (by first | exact XStab.true | exact XStab.rd | exact XStab.rdIf) ?_
                clear hO
                refine Sim.sP (i := 0) (d := some 134) (h := ?_)
                refine Sim.sP (i := 1) (d := some 135) (h := ?_)
                refine Sim.sP (i := 2) (d := some 136) (h := ?_)
                refine Sim.sO (i := 3) (d := some 137) (v := ?_) (hy := ?_) (h := ?_)
                rotate_left
                · first | refine Or.inl ⟨by rfl, fun w hO => ?_⟩ | (refine Or.inr ⟨by rfl, ?_⟩; with_reducible rfl)
                  first | done | (have hF := hO; (try simp only [Own, Item.Holds, apartI, CellsAt, Nat.reduceAdd, Nat.zero_add, List.mem_cons, List.not_mem_nil, or_false, forall_eq_or_imp, forall_eq, ne_eq, false_imp_iff, implies_true, and_true] at hF); ((have e0 := hO.row_cell (pcC_at HD2.out.2).1; have e1 := hO.row_cell (pcC_at HD2.out.2).2.1; have e2 := hO.row_cell (pcC_at HD2.out.2).2.2; have g0 := hO.2.row_cell (pcC_at HD2.out.1).1; have g1 := hO.2.row_cell (pcC_at HD2.out.1).2.1; have g2 := hO.2.row_cell (pcC_at HD2.out.1).2.2)); refine Out.same ?_; go_simp; all_goals with_reducible rfl)
                refine Sim.sO (i := 4) (d := some 138) (v := ?_) (hy := ?_) (h := ?_)
                rotate_left
                · first | refine Or.inl ⟨by rfl, fun w hO => ?_⟩ | (refine Or.inr ⟨by rfl, ?_⟩; with_reducible rfl)
                  first | done | (refine Out.call (f := 19) (args := ?_) ?_ ?_; rotate_left; (focus (go_simp; all_goals with_reducible rfl)); exact HKY.out _ hO.base)
                refine Sim.sP (i := 5) (d := some 139) (h := ?_)
                refine Sim.sP (i := 6) (d := some 140) (h := ?_)
                refine Sim.sP (i := 7) (d := some 141) (h := ?_)
                refine Sim.sO (i := 8) (d := some 142) (v := ?_) (hy := ?_) (h := ?_)
                rotate_left
                · first | refine Or.inl ⟨by rfl, fun w hO => ?_⟩ | (refine Or.inr ⟨by rfl, ?_⟩; with_reducible rfl)
                  first | done | (have hF := hO; (try simp only [Own, Item.Holds, apartI, CellsAt, Nat.reduceAdd, Nat.zero_add, List.mem_cons, List.not_mem_nil, or_false, forall_eq_or_imp, forall_eq, ne_eq, false_imp_iff, implies_true, and_true] at hF); ((have e0 := hO.row_cell (pcC_at HD2.out.2).1; have e1 := hO.row_cell (pcC_at HD2.out.2).2.1; have e2 := hO.row_cell (pcC_at HD2.out.2).2.2; have g0 := hO.2.row_cell (pcC_at HD2.out.1).1; have g1 := hO.2.row_cell (pcC_at HD2.out.1).2.1; have g2 := hO.2.row_cell (pcC_at HD2.out.1).2.2)); refine Out.same ?_; go_simp; all_goals with_reducible rfl)
                refine Sim.sO (i := 9) (d := some 143) (v := ?_) (hy := ?_) (h := ?_)
                rotate_left
                · first | refine Or.inl ⟨by rfl, fun w hO => ?_⟩ | (refine Or.inr ⟨by rfl, ?_⟩; with_reducible rfl)
                  first | done | (refine Out.call (f := 19) (args := ?_) ?_ ?_; rotate_left; (focus (go_simp; all_goals with_reducible rfl)); exact HKX.out _ hO.base)
                refine Sim.sP (i := 10) (d := some 144) (h := ?_)
                refine Sim.sP (i := 11) (d := some 17) (h := ?_)
                refine Sim.done (by kernel_rfl) (fun w1 hO hX => ?_) _
                (try simp only [World.size_alloc1, World.size_drew, Nat.reduceAdd] at hO); (try simp only [upd, updI, List.map_cons, List.map_nil, eq_self, if_true, if_false, reduceIte, Nat.add_eq_left, Nat.left_eq_add, Nat.reduceEqDiff, List.set_cons_zero, List.set_cons_succ] at hO)
                have hF := hO; (try simp only [Own, Item.Holds, apartI, CellsAt, Nat.reduceAdd, Nat.zero_add, List.mem_cons, List.not_mem_nil, or_false, forall_eq_or_imp, forall_eq, ne_eq, false_imp_iff, implies_true, and_true] at hF)
                go_wp2_with (go_at_call 20; apply own_at hO; (repeat (first | (with_reducible exact hO) | (with_reducible apply Own.alloc) | (with_reducible apply Own.drew) | ((with_reducible apply Own.set_at); (focus (show _ ≤ _; omega))))); have hG := hF; clear hF; clear hO; intro hO; refine own_callO hO (fun hW => HGG.out _ _ _ hW.base (HSL.out.below hW.base) (SlAt.of_row hW.2.1.1)) ?_; clear hO; intro w1 hO; (try simp only [World.size_alloc1, World.size_drew, Nat.reduceAdd] at hO); (try simp only [upd, updI, List.map_cons, List.map_nil, eq_self, if_true, if_false, reduceIte, Nat.add_eq_left, Nat.left_eq_add, Nat.reduceEqDiff, List.set_cons_zero, List.set_cons_succ, hG] at hO); clear hG; have hF := hO; (try simp only [Own, Item.Holds, apartI, CellsAt, Nat.reduceAdd, Nat.zero_add, List.mem_cons, List.not_mem_nil, or_false, forall_eq_or_imp, forall_eq, ne_eq, false_imp_iff, implies_true, and_true] at hF))
                go_ret
                exact ⟨rfl, btr HB0.out (Own.base (by first | exact hO | (repeat (first | (with_reducible exact hO) | (with_reducible apply Own.alloc) | (with_reducible apply Own.drew) | ((with_reducible apply Own.set_at); (focus (show _ ≤ _; omega)))))))⟩
              · have hjd' : j < d := by omega
                obtain ⟨y, hy⟩ : ∃ y, l2[j]? = some y := ⟨_, List.getElem?_eq_getElem (by have := HK.out.2; omega)⟩
                have hx : l[j]? = some y := (HD1.out j hjd').trans hy
                have HXY := hid (And.intro hx hy)
                have heq : ∀ {α : Type} (A B : α), (if y.s = y.s then (if y.a = y.a then (if y.o = y.o then A else B) else B) else B) = A := fun A B => by
                  rw [if_pos rfl, if_pos rfl, if_pos rfl]
                clear hx hy hj hjd
                go_wp2_with fail
                apply own_code hO
                (repeat (first | (with_reducible exact hO) | (with_reducible apply Own.alloc) | (with_reducible apply Own.drew) | ((with_reducible apply Own.set_at); (focus (show _ ≤ _; omega)))))
                have hG := hF; clear hF; clear hO; intro hO
                (try simp only [World.size_alloc1, World.size_drew, Nat.reduceAdd] at hO); (try simp only [upd, updI, List.map_cons, List.map_nil, eq_self, if_true, if_false, reduceIte, Nat.add_eq_left, Nat.left_eq_add, Nat.reduceEqDiff, List.set_cons_zero, List.set_cons_succ, hG] at hO); clear hG
                refine region_own (X := fun _ => True) [] (by kernel_rfl) (hO) (trivial) (by first | exact XStab.true | exact XStab.rd | exact XStab.rdIf) ?_
                clear hO
                refine Sim.sP (i := 0) (d := some 125) (h := ?_)
                refine Sim.sP (i := 1) (d := some 126) (h := ?_)
                refine Sim.sP (i := 2) (d := some 127) (h := ?_)
                refine Sim.sO (i := 3) (d := some 128) (v := ?_) (hy := ?_) (h := ?_)
                rotate_left
                · first | refine Or.inl ⟨by rfl, fun w hO => ?_⟩ | (refine Or.inr ⟨by rfl, ?_⟩; with_reducible rfl)
                  first | done | (have hF := hO; (try simp only [Own, Item.Holds, apartI, CellsAt, Nat.reduceAdd, Nat.zero_add, List.mem_cons, List.not_mem_nil, or_false, forall_eq_or_imp, forall_eq, ne_eq, false_imp_iff, implies_true, and_true] at hF); ((have e0 := hO.row_cell (pcC_at HXY.out.2).1; have e1 := hO.row_cell (pcC_at HXY.out.2).2.1; have e2 := hO.row_cell (pcC_at HXY.out.2).2.2; have g0 := hO.2.row_cell (pcC_at HXY.out.1).1; have g1 := hO.2.row_cell (pcC_at HXY.out.1).2.1; have g2 := hO.2.row_cell (pcC_at HXY.out.1).2.2)); refine Out.same ?_; go_simp; all_goals with_reducible rfl)
                refine Sim.sP (i := 4) (d := some 129) (h := ?_)
                refine Sim.sP (i := 5) (d := some 130) (h := ?_)
                refine Sim.sP (i := 6) (d := some 131) (h := ?_)
                refine Sim.sO (i := 7) (d := some 132) (v := ?_) (hy := ?_) (h := ?_)
                rotate_left
                · first | refine Or.inl ⟨by rfl, fun w hO => ?_⟩ | (refine Or.inr ⟨by rfl, ?_⟩; with_reducible rfl)
                  first | done | (have hF := hO; (try simp only [Own, Item.Holds, apartI, CellsAt, Nat.reduceAdd, Nat.zero_add, List.mem_cons, List.not_mem_nil, or_false, forall_eq_or_imp, forall_eq, ne_eq, false_imp_iff, implies_true, and_true] at hF); ((have e0 := hO.row_cell (pcC_at HXY.out.2).1; have e1 := hO.row_cell (pcC_at HXY.out.2).2.1; have e2 := hO.row_cell (pcC_at HXY.out.2).2.2; have g0 := hO.2.row_cell (pcC_at HXY.out.1).1; have g1 := hO.2.row_cell (pcC_at HXY.out.1).2.1; have g2 := hO.2.row_cell (pcC_at HXY.out.1).2.2)); refine Out.same ?_; go_simp; all_goals with_reducible rfl)
                refine Sim.sP (i := 8) (d := some 133) (h := ?_)
                refine Sim.done (by kernel_rfl) (fun w1 hO hX => ?_) _
                (try simp only [World.size_alloc1, World.size_drew, Nat.reduceAdd] at hO); (try simp only [upd, updI, List.map_cons, List.map_nil, eq_self, if_true, if_false, reduceIte, Nat.add_eq_left, Nat.left_eq_add, Nat.reduceEqDiff, List.set_cons_zero, List.set_cons_succ] at hO)
                have hF := hO; (try simp only [Own, Item.Holds, apartI, CellsAt, Nat.reduceAdd, Nat.zero_add, List.mem_cons, List.not_mem_nil, or_false, forall_eq_or_imp, forall_eq, ne_eq, false_imp_iff, implies_true, and_true] at hF)
                go_wp2
                go_roundw
                case rel => exact ⟨j + 1, by omega, by go_num, rfl, hO⟩
                case measure => simp [intOf]; omega
        · have hil : i < k := by omega
          have hil2 : (i : Int) < (k : Int) := by omega
          have hi0 : (0 : Int) ≤ (i : Int) := by omega
          obtain ⟨x, hx⟩ : ∃ x, l[i]? = some x := ⟨_, List.getElem?_eq_getElem (by have := HK.out.1; omega)⟩
          have hxk := HKEY.out x (List.mem_of_getElem? hx)
          obtain ⟨d0, d1, d2⟩ := ptAt (SlAt.of_row hO.1.1) hx
          rw [Nat.zero_add] at d0 d1 d2
          obtain ⟨zx, hzx⟩ : ∃ z, kyP x = z := ⟨_, rfl⟩
          have HKX := hid (fun W (hW : Below wd.heap.size wd W) => keyI15 hzx W (HT.out.below hW))
          rw [hzx] at hxk
          have y1 : ¬ zx < lo := by omega
          have y2 : ¬ hi < zx := by omega
          clear he hx hxk hzx
          go_wp2_with (go_at_call 19; apply own_at hO; (repeat (first | (with_reducible exact hO) | (with_reducible apply Own.alloc) | (with_reducible apply Own.drew) | ((with_reducible apply Own.set_at); (focus (show _ ≤ _; omega))))); have hG := hF; clear hF; clear hO; intro hO; refine own_call hO (fun hB => HKX.out _ hB) ?_; clear hO; intro w1 hO; (try simp only [World.size_alloc1, World.size_drew, Nat.reduceAdd] at hO); (try simp only [upd, updI, List.map_cons, List.map_nil, eq_self, if_true, if_false, reduceIte, Nat.add_eq_left, Nat.left_eq_add, Nat.reduceEqDiff, List.set_cons_zero, List.set_cons_succ, hG] at hO); clear hG; have hF := hO; (try simp only [Own, Item.Holds, apartI, CellsAt, Nat.reduceAdd, Nat.zero_add, List.mem_cons, List.not_mem_nil, or_false, forall_eq_or_imp, forall_eq, ne_eq, false_imp_iff, implies_true, and_true] at hF))
          go_roundw
          case rel => exact ⟨i + 1, by omega, by go_num, hO⟩
          case measure => simp [intOf]; omega
  · have hl' : 1048576 < (n0 : Int) := by omega
    go_enter Tryd.func4, Tryd.ntmps4
    go_wp2
    go_ret
    exact ⟨rfl, Below.refl _ _⟩
end Go.Proofs.YtieoobanpllmgaaDoor
