/- The walk of FnCanonDelays, from what the functions answer. -/
import Derived.Test.YtmkhpafcgobfhaaDoorDraws16D
import Derived.Test.YtmkhpafcgobfhaaDoorCon16
import Derived.Test.YtmkhpafcgobfhaaDoorCon5
import Derived.Test.YtmkhpafcgobfhaaDoorWalksPS
import Derived.Test.YtmkhpafcgobfhaaDoorLawsPitch
import Derived.Test.YtmkhpafcgobfhaaDoorRegionD
namespace Go.Proofs.YtmkhpafcgobfhaaDoor
set_option linter.unusedSimpArgs false
set_option linter.unusedVariables false
set_option maxRecDepth 8000
open Go.RowKit

theorem vtD16 {va : Value} {v : List Nt} {n : Nat} {w : World} {z : Int} (hI : CInt 36 vtZ w) (hl : v.length = n) (ha : SlAt w va n 6 (vcC v)) (hn : n ≤ 1048576) (h : vtZ v = z) (W : World) (hW : Below w.heap.size w W) :
    Calls Tryd.prog 36 #[va] W fun e w' => e = .returned (.int .i64 z) ∧ Below W.heap.size W w' := by
  subst hl h; exact hI va v W hW (ha.below hW) hn
/-- What is said of a good delay. -/
theorem cd_mem {v : List Nt} {g st ha t : Int} (h : t ∈ cdW v g st ha) : voB v = true ∧ (1 ≤ g ∧ g ≤ 768) ∧ t.tmod g = 0 ∧ (1 ≤ t ∧ t ≤ 768) ∧ t < sumT v ∧ caB v t st ha = true ∧ mfZ v (caL v t st ha) = -1 := by
  unfold cdW cyL at h
  obtain ⟨h1, h2⟩ := List.mem_filter.1 h
  obtain ⟨i, h3, rfl⟩ := List.mem_map.1 h1
  have h4 := List.mem_range.1 h3
  have hc : voB v = true ∧ 1 ≤ g ∧ g ≤ 768 := by
    refine Classical.byContradiction fun hn => ?_
    unfold cyN at h4
    rw [if_neg hn] at h4
    omega
  have h5 := (cy_more hc.1 hc.2.1 hc.2.2).1 h4
  unfold gdK at h2
  rw [Bool.and_eq_true] at h2
  have h6 : g ≤ g * ((i : Int) + 1) := by
    have := Int.mul_le_mul_of_nonneg_left (show (1 : Int) ≤ (i : Int) + 1 by omega) (show (0 : Int) ≤ g by omega)
    omega
  exact ⟨hc.1, hc.2, Int.mul_tmod_right _ _, ⟨by omega, h5.2⟩, h5.1, h2.1, by simpa using h2.2⟩
theorem cd_up {v : List Nt} {g st ha s t : Int} {k : Nat} (hs : (cdW v g st ha)[k]? = some s) (h : (cdW v g st ha)[k + 1]? = some t) : s < t := by
  have hg := (cd_mem (List.mem_of_getElem? h)).2.1
  have hp : (cdW v g st ha).Pairwise (fun x y => x < y) := by
    unfold cdW cyL
    refine List.Pairwise.filter _ ?_
    rw [List.pairwise_map]
    refine List.Pairwise.imp ?_ (List.pairwise_lt_range)
    intro a b hab
    exact Int.mul_lt_mul_of_pos_left (by omega) (by omega)
  obtain ⟨h1, h2⟩ := List.getElem?_eq_some_iff.1 hs
  obtain ⟨h3, h4⟩ := List.getElem?_eq_some_iff.1 h
  have := List.pairwise_iff_getElem.1 hp k (k + 1) h1 h3 (by omega)
  rw [h2, h4] at this
  exact this

set_option maxRecDepth 20000 in
set_option maxHeartbeats 16000000 in
theorem fnCanonDelays_of (v : Value) (n0 : Nat) (w : World) (hn : n0 ≤ maxLen) (h : BytesB w w.heap.size v n0) (ht : TabH w)
    (hS : CCd 40 w) (hI : CCd 38 w) (hC : CCn 29 w) (hM : CMf 24 w) (hV : CInt 36 vtZ w) :
    Calls Tryd.prog 8 #[v] w fun e w' => e = .returned (.bool true) ∧ Below w.heap.size w w' := by
  obtain ⟨a0, c0, rfl⟩ := h.form
  have hn' : (n0 : Int) ≤ 9223372036854775807 := by unfold maxLen at hn; omega
  by_cases hl : n0 ≤ 1048576
  · have hl' : (n0 : Int) ≤ 1048576 := by omega
    go_enter Tryd.func8, Tryd.ntmps8
    go_wp2_with (go_at_call 37; refine (DrawCanonDelays_any _ n0 _ hn h).mono ?_; rintro e wd ⟨u, l, g, st, ha, hv, hl9, hd, hst, hha, rfl, hO1⟩)
    have hb0 := hO1.base
    have HT := hid (ht.below hb0)
    have HB0 := hid hb0
    have hs := SlAt.of_row hO1.1.1
    have hO := Own.start wd
    have hF := True.intro
    obtain ⟨n, hna⟩ : ∃ n, l.length = n := ⟨_, rfl⟩
    rw [hna] at hs hl9
    have HA := hid hs
    have n1 : n ≤ 1048576 := by omega
    have r1 : r64 g := by unfold r64; omega
    have r2 : r64 st := by unfold r64; omega
    have r3 : r64 ha := by unfold r64; omega
    obtain ⟨A1, k1, rfl⟩ := hs.form
    obtain ⟨xs9, hxs9⟩ : ∃ x, cdW l g st ha = x := ⟨_, rfl⟩
    obtain ⟨k, hk8⟩ : ∃ x, xs9.length = x := ⟨_, rfl⟩
    have hk9 : k ≤ 768 := by
      rw [← hk8, ← hxs9]
      unfold cdW
      exact Nat.le_trans (cy_len _ _ _ _ _) (cyN_le _ _)
    have HI := hid ((hI.to hb0).is hna n1 r1 r2 r3 hxs9 hk8)
    have HS := hid ((hS.to hb0).is hna n1 r1 r2 r3 hxs9 hk8)
    have hu9 := intC_int xs9
    have hul : (intC xs9).length = k := by rw [intC_len, hk8]
    have HG := hid (fun va vb W (h1 : SlAt W va k 1 (intC xs9)) (h2 : SlAt W vb k 1 (intC xs9)) => sameInts_same va vb k (intC xs9) W h1 h2 hu9)
    have hV' : CInt 36 vtZ wd := fun va v W hW => hV va v W (btr hb0 hW)
    have HVT := hid (fun z hz => vtD16 (z := z) hV' hna hs n1 hz)
    have HCN := hid (fun (t : Int) (cu : List Nt) (ck : Nat) (ht : r64 t) (hcu : caL l t st ha = cu) (hck : cu.length = ck) (hcb : caB l t st ha = true) => (hC.to hb0).is hna n1 ht r2 r3 hcu hck hcb)
    have HMF := hid (fun (cu : List Nt) (ck : Nat) (hck : cu.length = ck) (hc9 : ck ≤ 1048576) (hz : mfZ l cu = -1) => (hM.to hb0).is hna hck n1 hc9 hz)
    have HU := hid (And.intro hxs9 hk8)
    have HN := hid hna
    clear hn h ht hS hI hC hM hV hV' hb0 hs hO1 hv hxs9 hk8 hna hu9 hul r1 r2 r3
    go_wp2_with fail
    (go_at_call 38; apply own_at hO; (repeat (first | (with_reducible exact hO) | (with_reducible apply Own.alloc) | (with_reducible apply Own.drew) | ((with_reducible apply Own.set_at); (focus (show _ ≤ _; omega))))); have hG := hF; clear hF; clear hO; intro hO; refine own_call_row hO (fun hB => HI.out _ _ hB (HA.out.below hB)) ?_; clear hO; intro v w1 hO; (try simp only [World.size_alloc1, World.size_drew, Nat.reduceAdd] at hO); (try simp only [upd, updI, List.map_cons, List.map_nil, eq_self, if_true, if_false, reduceIte, Nat.add_eq_left, Nat.left_eq_add, Nat.reduceEqDiff, List.set_cons_zero, List.set_cons_succ, hG] at hO); clear hG; have hF := hO; (try simp only [Own, Item.Holds, apartI, CellsAt, Nat.reduceAdd, Nat.zero_add, List.mem_cons, List.not_mem_nil, or_false, forall_eq_or_imp, forall_eq, ne_eq, false_imp_iff, implies_true, and_true] at hF))
    obtain ⟨A3, k3, hv3⟩ := (SlAt.of_row hO.1.1).form
    subst hv3
    go_wp2_with (first | (go_at_call 40; apply own_at hO; (repeat (first | (with_reducible exact hO) | (with_reducible apply Own.alloc) | (with_reducible apply Own.drew) | ((with_reducible apply Own.set_at); (focus (show _ ≤ _; omega))))); have hG := hF; clear hF; clear hO; intro hO; refine own_call_row hO (fun hB => HS.out _ _ hB (HA.out.below hB)) ?_; clear hO; intro v w1 hO; (try simp only [World.size_alloc1, World.size_drew, Nat.reduceAdd] at hO); (try simp only [upd, updI, List.map_cons, List.map_nil, eq_self, if_true, if_false, reduceIte, Nat.add_eq_left, Nat.left_eq_add, Nat.reduceEqDiff, List.set_cons_zero, List.set_cons_succ, hG] at hO); clear hG; have hF := hO; (try simp only [Own, Item.Holds, apartI, CellsAt, Nat.reduceAdd, Nat.zero_add, List.mem_cons, List.not_mem_nil, or_false, forall_eq_or_imp, forall_eq, ne_eq, false_imp_iff, implies_true, and_true] at hF)) | (go_at_call 39; apply own_at hO; (repeat (first | (with_reducible exact hO) | (with_reducible apply Own.alloc) | (with_reducible apply Own.drew) | ((with_reducible apply Own.set_at); (focus (show _ ≤ _; omega))))); have hG := hF; clear hF; clear hO; intro hO; refine own_callO hO (fun hW => HG.out _ _ _ (SlAt.of_row hW.2.1.1) (SlAt.of_row hW.1.1)) ?_; clear hO; intro w1 hO; (try simp only [World.size_alloc1, World.size_drew, Nat.reduceAdd] at hO); (try simp only [upd, updI, List.map_cons, List.map_nil, eq_self, if_true, if_false, reduceIte, Nat.add_eq_left, Nat.left_eq_add, Nat.reduceEqDiff, List.set_cons_zero, List.set_cons_succ, hG] at hO); clear hG; have hF := hO; (try simp only [Own, Item.Holds, apartI, CellsAt, Nat.reduceAdd, Nat.zero_add, List.mem_cons, List.not_mem_nil, or_false, forall_eq_or_imp, forall_eq, ne_eq, false_imp_iff, implies_true, and_true] at hF)))
    have hO2 := Own.sub (.cons _ (.refl _)) hO
    clear hO HI HS HG
    go_loopw [7] (fun t wr => ∃ i : Nat, i ≤ k ∧ t = .int .i64 i ∧ Own wd.heap.size (Below wd.heap.size wd) wr [.row 3 1 (.slice A3 k k3) k (intC xs9), .blk wd.heap.size [.int .i64 st, .int .i64 ha]]) (fun t _ => k - (intOf t).toNat)
    case atStart => exact ⟨0, by omega, rfl, hO2⟩
    case round =>
      clear hO2 hF
      obtain ⟨i, hi, rfl, hO⟩ := hrel
      have hF := True.intro
      have hF := hO; (try simp only [Own, Item.Holds, apartI, CellsAt, Nat.reduceAdd, Nat.zero_add, List.mem_cons, List.not_mem_nil, or_false, forall_eq_or_imp, forall_eq, ne_eq, false_imp_iff, implies_true, and_true] at hF)
      by_cases he : i = k
      · subst he
        go_wp2_with (go_at_call 27; apply own_at hO; (repeat (first | (with_reducible exact hO) | (with_reducible apply Own.alloc) | (with_reducible apply Own.drew) | ((with_reducible apply Own.set_at); (focus (show _ ≤ _; omega))))); have hG := hF; clear hF; clear hO; intro hO; refine own_call hO (fun hB => alive_any _ (HT.out.below hB)) ?_; clear hO; intro w1 hO; (try simp only [World.size_alloc1, World.size_drew, Nat.reduceAdd] at hO); (try simp only [upd, updI, List.map_cons, List.map_nil, eq_self, if_true, if_false, reduceIte, Nat.add_eq_left, Nat.left_eq_add, Nat.reduceEqDiff, List.set_cons_zero, List.set_cons_succ, hG] at hO); clear hG; have hF := hO; (try simp only [Own, Item.Holds, apartI, CellsAt, Nat.reduceAdd, Nat.zero_add, List.mem_cons, List.not_mem_nil, or_false, forall_eq_or_imp, forall_eq, ne_eq, false_imp_iff, implies_true, and_true] at hF))
        go_ret
        exact ⟨rfl, btr HB0.out (Own.base (by first | exact hO | (repeat (first | (with_reducible exact hO) | (with_reducible apply Own.alloc) | (with_reducible apply Own.drew) | ((with_reducible apply Own.set_at); (focus (show _ ≤ _; omega)))))))⟩
      · have hil : i < k := by omega
        have hil2 : (i : Int) < (k : Int) := by omega
        have hi0 : (0 : Int) ≤ (i : Int) := by omega
        obtain ⟨t, hti⟩ : ∃ t, xs9[i]? = some t := ⟨_, List.getElem?_eq_getElem (by have := HU.out.2; omega)⟩
        have hti2 := hti
        rw [← HU.out.1] at hti2
        obtain ⟨g1, ⟨g2, g3⟩, g4, ⟨g5, g6⟩, g7, g8, g9⟩ := cd_mem (List.mem_of_getElem? hti2)
        obtain ⟨cu, hcu⟩ : ∃ x, caL l t st ha = x := ⟨_, rfl⟩
        obtain ⟨ck, hck⟩ : ∃ x, cu.length = x := ⟨_, rfl⟩
        have hck9 : ck ≤ 1048576 := by rw [← hck, ← hcu, ca_len g8]; have := HN.out; omega
        rw [hcu] at g9
        have HC := hid (HCN.out t cu ck (by unfold r64; omega) hcu hck g8)
        have HM := hid (HMF.out cu ck hck hck9 g9)
        obtain ⟨sv, hsv⟩ : ∃ s, sumT l = s := ⟨_, rfl⟩
        have HV := hid (HVT.out sv (by unfold vtZ; rw [if_pos g1, hsv]))
        rw [hsv] at g7
        have gg : ¬ g = 0 := by omega
        have gg2 : (g == 0) = false := by simpa using gg
        have c1 : ¬ sv ≤ t := by omega
        have c2 : decide (sv ≤ t) = false := decide_eq_false c1
        have wz : IntKind.i64.wrap (0 : Int) = 0 := rfl
        have w4 : IntKind.i64.wrap (t.tmod g) = 0 := by rw [g4]; rfl
        obtain ⟨q3, kk3, hv3, hq3, hq4⟩ := hO.row_open (by omega)
        cases hv3
        have HTI := hid hti
        clear hq4 hcu hck hck9 g8 g9 hsv g1 hti
        by_cases hz : i = 0
        · subst hz
          rw [show ((0 : Nat) : Int) = 0 from rfl]
          go_wp2_with fail
          apply own_code hO
          (repeat (first | (with_reducible exact hO) | (with_reducible apply Own.alloc) | (with_reducible apply Own.drew) | ((with_reducible apply Own.set_at); (focus (show _ ≤ _; omega)))))
          have hG := hF; clear hF; clear hO; intro hO
          (try simp only [World.size_alloc1, World.size_drew, Nat.reduceAdd] at hO); (try simp only [upd, updI, List.map_cons, List.map_nil, eq_self, if_true, if_false, reduceIte, Nat.add_eq_left, Nat.left_eq_add, Nat.reduceEqDiff, List.set_cons_zero, List.set_cons_succ, hG] at hO); clear hG
          refine region_own (X := fun _ => True) [] (by kernel_rfl) (hO) (trivial) (by first | exact XStab.true | exact XStab.rd | exact XStab.rdIf) ?_
          clear hO
          refine Sim.sP (i := 0) (d := some 37) (h := ?_)
          refine Sim.sP (i := 1) (d := some 38) (h := ?_)
          refine Sim.sP (i := 2) (d := some 39) (h := ?_)
          refine Sim.sP (i := 3) (d := some 40) (h := ?_)
          refine Sim.sO (i := 4) (d := some 41) (v := ?_) (hy := ?_) (h := ?_)
          rotate_left
          · first | refine Or.inl ⟨by rfl, fun w hO => ?_⟩ | (refine Or.inr ⟨by rfl, ?_⟩; with_reducible rfl)
            first | done | (have hF := hO; (try simp only [Own, Item.Holds, apartI, CellsAt, Nat.reduceAdd, Nat.zero_add, List.mem_cons, List.not_mem_nil, or_false, forall_eq_or_imp, forall_eq, ne_eq, false_imp_iff, implies_true, and_true] at hF); ((have e0 := hO.row_cell (intC_get HTI.out))); refine Out.same ?_; go_simp; all_goals with_reducible rfl)
          refine Sim.sO (i := 5) (d := some 42) (v := ?_) (hy := ?_) (h := ?_)
          rotate_left
          · first | refine Or.inl ⟨by rfl, fun w hO => ?_⟩ | (refine Or.inr ⟨by rfl, ?_⟩; with_reducible rfl)
            first | done | (have hF := hO; (try simp only [Own, Item.Holds, apartI, CellsAt, Nat.reduceAdd, Nat.zero_add, List.mem_cons, List.not_mem_nil, or_false, forall_eq_or_imp, forall_eq, ne_eq, false_imp_iff, implies_true, and_true] at hF); ((have e0 := hO.row_cell (intC_get HTI.out))); refine Out.same ?_; go_simp; all_goals with_reducible rfl)
          refine Sim.one' (i := 6) (oi := { dst := some 43, op := Op.call { callee := Callee.value (Operand.func 29), args := #[Operand.tmp 37, Operand.tmp 41, Operand.tmp 42], argTypes := #[28, 3, 31] }, type := 29, pos := "laws.go:1452", after := #[{ on := 0, ground := Ground.data }, { on := 4, ground := Ground.data }, { on := 5, ground := Ground.data }], guard := none }) (by kernel_rfl) rfl (by rfl) (fun w0 hO hX K hK => ?_)
          have hF := hO; (try simp only [Own, Item.Holds, apartI, CellsAt, Nat.reduceAdd, Nat.zero_add, List.mem_cons, List.not_mem_nil, or_false, forall_eq_or_imp, forall_eq, ne_eq, false_imp_iff, implies_true, and_true] at hF)
          go_simp
          refine (HC.out _ _ hO.base (HA.out.below hO.base)).mono ?_
          rintro e wa ⟨ra, rfl, hra, hBa⟩
          apply hK _ _ _ (fun _ => True)
          · exact hO.addRow hBa hra
          · exact trivial
          · exact XStab.true
          · first | exact fun _ _ h => h.2 | exact fun h => absurd h (by decide)
          clear hra hBa
          clear hK K hF hO
          try simp only [Act.put, List.setIfInBounds_toArray, List.set_cons_zero, List.set_cons_succ]
          refine Sim.sP (i := 7) (d := some 36) (h := ?_)
          refine Sim.sP (i := 8) (d := some 44) (h := ?_)
          refine Sim.sP (i := 9) (d := some 45) (h := ?_)
          refine Sim.sP (i := 10) (d := some 8) (h := ?_)
          refine Sim.sP (i := 11) (d := some 9) (h := ?_)
          refine Sim.done (by kernel_rfl) (fun w1 hO hX => ?_) _
          (try simp only [World.size_alloc1, World.size_drew, Nat.reduceAdd] at hO); (try simp only [upd, updI, List.map_cons, List.map_nil, eq_self, if_true, if_false, reduceIte, Nat.add_eq_left, Nat.left_eq_add, Nat.reduceEqDiff, List.set_cons_zero, List.set_cons_succ] at hO)
          have hF := hO; (try simp only [Own, Item.Holds, apartI, CellsAt, Nat.reduceAdd, Nat.zero_add, List.mem_cons, List.not_mem_nil, or_false, forall_eq_or_imp, forall_eq, ne_eq, false_imp_iff, implies_true, and_true] at hF)
          go_wp2_with fail
          apply own_code hO
          (repeat (first | (with_reducible exact hO) | (with_reducible apply Own.alloc) | (with_reducible apply Own.drew) | ((with_reducible apply Own.set_at); (focus (show _ ≤ _; omega)))))
          have hG := hF; clear hF; clear hO; intro hO
          (try simp only [World.size_alloc1, World.size_drew, Nat.reduceAdd] at hO); (try simp only [upd, updI, List.map_cons, List.map_nil, eq_self, if_true, if_false, reduceIte, Nat.add_eq_left, Nat.left_eq_add, Nat.reduceEqDiff, List.set_cons_zero, List.set_cons_succ, hG] at hO); clear hG
          refine region_own (X := fun _ => True) [] (by kernel_rfl) (hO) (trivial) (by first | exact XStab.true | exact XStab.rd | exact XStab.rdIf) ?_
          clear hO
          refine Sim.sP (i := 0) (d := some 46) (h := ?_)
          refine Sim.sP (i := 1) (d := some 47) (h := ?_)
          refine Sim.sP (i := 2) (d := some 48) (h := ?_)
          refine Sim.sO (i := 3) (d := some 49) (v := ?_) (hy := ?_) (h := ?_)
          rotate_left
          · first | refine Or.inl ⟨by rfl, fun w hO => ?_⟩ | (refine Or.inr ⟨by rfl, ?_⟩; with_reducible rfl)
            first | done | (have hF := hO; (try simp only [Own, Item.Holds, apartI, CellsAt, Nat.reduceAdd, Nat.zero_add, List.mem_cons, List.not_mem_nil, or_false, forall_eq_or_imp, forall_eq, ne_eq, false_imp_iff, implies_true, and_true] at hF); ((have e0 := hO.2.row_cell (intC_get HTI.out))); refine Out.same ?_; go_simp; all_goals with_reducible rfl)
          refine Sim.sP (i := 4) (d := some 50) (h := ?_)
          refine Sim.sP (i := 5) (d := some 51) (h := ?_)
          refine Sim.sP (i := 6) (d := some 52) (h := ?_)
          refine Sim.sP (i := 7) (d := some 53) (h := ?_)
          refine Sim.sP (i := 8) (d := some 54) (h := ?_)
          refine Sim.sP (i := 9) (d := some 55) (h := ?_)
          refine Sim.sP (i := 10) (d := some 56) (h := ?_)
          refine Sim.sP (i := 11) (d := some 57) (h := ?_)
          refine Sim.sP (i := 12) (d := some 58) (h := ?_)
          refine Sim.sP (i := 13) (d := some 59) (h := ?_)
          refine Sim.sP (i := 14) (d := some 60) (h := ?_)
          refine Sim.sP (i := 15) (d := some 61) (h := ?_)
          refine Sim.sP (i := 16) (d := some 62) (h := ?_)
          refine Sim.sP (i := 17) (d := some 63) (h := ?_)
          refine Sim.sP (i := 18) (d := some 64) (h := ?_)
          refine Sim.sP (i := 19) (d := some 65) (h := ?_)
          refine Sim.sP (i := 20) (d := some 66) (h := ?_)
          refine Sim.sP (i := 21) (d := some 67) (h := ?_)
          refine Sim.sP (i := 22) (d := some 68) (h := ?_)
          refine Sim.sP (i := 23) (d := some 69) (h := ?_)
          refine Sim.sP (i := 24) (d := some 70) (h := ?_)
          refine Sim.sP (i := 25) (d := some 71) (h := ?_)
          refine Sim.sP (i := 26) (d := some 72) (h := ?_)
          refine Sim.sP (i := 27) (d := some 73) (h := ?_)
          refine Sim.sP (i := 28) (d := some 74) (h := ?_)
          refine Sim.sP (i := 29) (d := some 75) (h := ?_)
          refine Sim.sO (i := 30) (d := some 76) (v := ?_) (hy := ?_) (h := ?_)
          rotate_left
          · first | refine Or.inl ⟨by rfl, fun w hO => ?_⟩ | (refine Or.inr ⟨by rfl, ?_⟩; with_reducible rfl)
            first | done | (refine Out.call (f := 24) (args := ?_) ?_ ?_; rotate_left; (focus (go_simp; all_goals with_reducible rfl)); exact HM.out _ _ _ hO.base (HA.out.below hO.base) (SlAt.of_row hO.1.1))
          refine Sim.sP (i := 31) (d := some 77) (h := ?_)
          refine Sim.sP (i := 32) (d := some 78) (h := ?_)
          refine Sim.sP (i := 33) (d := some 79) (h := ?_)
          refine Sim.sP (i := 34) (d := some 80) (h := ?_)
          refine Sim.sP (i := 35) (d := some 81) (h := ?_)
          refine Sim.sP (i := 36) (d := some 82) (h := ?_)
          refine Sim.sO (i := 37) (d := some 83) (v := ?_) (hy := ?_) (h := ?_)
          rotate_left
          · first | refine Or.inl ⟨by rfl, fun w hO => ?_⟩ | (refine Or.inr ⟨by rfl, ?_⟩; with_reducible rfl)
            first | done | (have hF := hO; (try simp only [Own, Item.Holds, apartI, CellsAt, Nat.reduceAdd, Nat.zero_add, List.mem_cons, List.not_mem_nil, or_false, forall_eq_or_imp, forall_eq, ne_eq, false_imp_iff, implies_true, and_true] at hF); ((have e0 := hO.2.row_cell (intC_get HTI.out))); refine Out.same ?_; go_simp; all_goals with_reducible rfl)
          refine Sim.sP (i := 38) (d := some 84) (h := ?_)
          refine Sim.sO (i := 39) (d := some 85) (v := ?_) (hy := ?_) (h := ?_)
          rotate_left
          · first | refine Or.inl ⟨by rfl, fun w hO => ?_⟩ | (refine Or.inr ⟨by rfl, ?_⟩; with_reducible rfl)
            first | done | (refine Out.call (f := 36) (args := ?_) ?_ ?_; rotate_left; (focus (go_simp; all_goals with_reducible rfl)); exact HV.out _ hO.base)
          refine Sim.sP (i := 40) (d := some 86) (h := ?_)
          refine Sim.sP (i := 41) (d := some 87) (h := ?_)
          refine Sim.done (by kernel_rfl) (fun w1 hO hX => ?_) _
          (try simp only [World.size_alloc1, World.size_drew, Nat.reduceAdd] at hO); (try simp only [upd, updI, List.map_cons, List.map_nil, eq_self, if_true, if_false, reduceIte, Nat.add_eq_left, Nat.left_eq_add, Nat.reduceEqDiff, List.set_cons_zero, List.set_cons_succ] at hO)
          have hF := hO; (try simp only [Own, Item.Holds, apartI, CellsAt, Nat.reduceAdd, Nat.zero_add, List.mem_cons, List.not_mem_nil, or_false, forall_eq_or_imp, forall_eq, ne_eq, false_imp_iff, implies_true, and_true] at hF)
          go_wp2_with fail
          go_roundw
          case rel => exact ⟨1, by omega, by go_num, hO.2⟩
          case measure => simp [intOf]; omega
        · obtain ⟨p, rfl⟩ : ∃ p, i = p + 1 := ⟨i - 1, by omega⟩
          obtain ⟨s, hsi⟩ : ∃ s, xs9[p]? = some s := ⟨_, List.getElem?_eq_getElem (by have := HU.out.2; omega)⟩
          have hst9 := cd_up (by rw [HU.out.1]; exact hsi) hti2
          have HSI := hid hsi
          have b1 : ¬ t ≤ s := by omega
          have b2 : decide (t ≤ s) = false := decide_eq_false b1
          have b5 : (0 : Int) < (p : Int) + 1 := by omega
          have b6 : decide ((0 : Int) < (p : Int) + 1) = true := decide_eq_true b5
          have b7 : IntKind.i64.wrap ((p : Int) + 1 - 1) = (p : Int) := by rw [Int.add_sub_cancel]; exact IntWalk.i64_in _ (by omega)
          have b8 : (0 : Int) ≤ (p : Int) := by omega
          have b9 : (p : Int) < (k : Int) := by omega
          have ba : IntKind.i64.wrap (p : Int) = (p : Int) := IntWalk.i64_in _ (by omega)
          clear hst9 hsi hti2 he hz
          rw [show ((p + 1 : Nat) : Int) = (p : Int) + 1 from rfl] at *
          go_wp2_with fail
          apply own_code hO
          (repeat (first | (with_reducible exact hO) | (with_reducible apply Own.alloc) | (with_reducible apply Own.drew) | ((with_reducible apply Own.set_at); (focus (show _ ≤ _; omega)))))
          have hG := hF; clear hF; clear hO; intro hO
          (try simp only [World.size_alloc1, World.size_drew, Nat.reduceAdd] at hO); (try simp only [upd, updI, List.map_cons, List.map_nil, eq_self, if_true, if_false, reduceIte, Nat.add_eq_left, Nat.left_eq_add, Nat.reduceEqDiff, List.set_cons_zero, List.set_cons_succ, hG] at hO); clear hG
          refine region_own (X := fun _ => True) [] (by kernel_rfl) (hO) (trivial) (by first | exact XStab.true | exact XStab.rd | exact XStab.rdIf) ?_
          clear hO
          refine Sim.sP (i := 0) (d := some 37) (h := ?_)
          refine Sim.sP (i := 1) (d := some 38) (h := ?_)
          refine Sim.sP (i := 2) (d := some 39) (h := ?_)
          refine Sim.sP (i := 3) (d := some 40) (h := ?_)
          refine Sim.sO (i := 4) (d := some 41) (v := ?_) (hy := ?_) (h := ?_)
          rotate_left
          · first | refine Or.inl ⟨by rfl, fun w hO => ?_⟩ | (refine Or.inr ⟨by rfl, ?_⟩; with_reducible rfl)
            first | done | (have hF := hO; (try simp only [Own, Item.Holds, apartI, CellsAt, Nat.reduceAdd, Nat.zero_add, List.mem_cons, List.not_mem_nil, or_false, forall_eq_or_imp, forall_eq, ne_eq, false_imp_iff, implies_true, and_true] at hF); ((have e0 := hO.row_cell (intC_get HTI.out))); refine Out.same ?_; go_simp; all_goals with_reducible rfl)
          refine Sim.sO (i := 5) (d := some 42) (v := ?_) (hy := ?_) (h := ?_)
          rotate_left
          · first | refine Or.inl ⟨by rfl, fun w hO => ?_⟩ | (refine Or.inr ⟨by rfl, ?_⟩; with_reducible rfl)
            first | done | (have hF := hO; (try simp only [Own, Item.Holds, apartI, CellsAt, Nat.reduceAdd, Nat.zero_add, List.mem_cons, List.not_mem_nil, or_false, forall_eq_or_imp, forall_eq, ne_eq, false_imp_iff, implies_true, and_true] at hF); ((have e0 := hO.row_cell (intC_get HTI.out))); refine Out.same ?_; go_simp; all_goals with_reducible rfl)
          refine Sim.one' (i := 6) (oi := { dst := some 43, op := Op.call { callee := Callee.value (Operand.func 29), args := #[Operand.tmp 37, Operand.tmp 41, Operand.tmp 42], argTypes := #[28, 3, 31] }, type := 29, pos := "laws.go:1452", after := #[{ on := 0, ground := Ground.data }, { on := 4, ground := Ground.data }, { on := 5, ground := Ground.data }], guard := none }) (by kernel_rfl) rfl (by rfl) (fun w0 hO hX K hK => ?_)
          have hF := hO; (try simp only [Own, Item.Holds, apartI, CellsAt, Nat.reduceAdd, Nat.zero_add, List.mem_cons, List.not_mem_nil, or_false, forall_eq_or_imp, forall_eq, ne_eq, false_imp_iff, implies_true, and_true] at hF)
          go_simp
          refine (HC.out _ _ hO.base (HA.out.below hO.base)).mono ?_
          rintro e wa ⟨ra, rfl, hra, hBa⟩
          apply hK _ _ _ (fun _ => True)
          · exact hO.addRow hBa hra
          · exact trivial
          · exact XStab.true
          · first | exact fun _ _ h => h.2 | exact fun h => absurd h (by decide)
          clear hra hBa
          clear hK K hF hO
          try simp only [Act.put, List.setIfInBounds_toArray, List.set_cons_zero, List.set_cons_succ]
          refine Sim.sP (i := 7) (d := some 36) (h := ?_)
          refine Sim.sP (i := 8) (d := some 44) (h := ?_)
          refine Sim.sP (i := 9) (d := some 45) (h := ?_)
          refine Sim.sP (i := 10) (d := some 8) (h := ?_)
          refine Sim.sP (i := 11) (d := some 9) (h := ?_)
          refine Sim.done (by kernel_rfl) (fun w1 hO hX => ?_) _
          (try simp only [World.size_alloc1, World.size_drew, Nat.reduceAdd] at hO); (try simp only [upd, updI, List.map_cons, List.map_nil, eq_self, if_true, if_false, reduceIte, Nat.add_eq_left, Nat.left_eq_add, Nat.reduceEqDiff, List.set_cons_zero, List.set_cons_succ] at hO)
          have hF := hO; (try simp only [Own, Item.Holds, apartI, CellsAt, Nat.reduceAdd, Nat.zero_add, List.mem_cons, List.not_mem_nil, or_false, forall_eq_or_imp, forall_eq, ne_eq, false_imp_iff, implies_true, and_true] at hF)
          go_wp2_with fail
          apply own_code hO
          (repeat (first | (with_reducible exact hO) | (with_reducible apply Own.alloc) | (with_reducible apply Own.drew) | ((with_reducible apply Own.set_at); (focus (show _ ≤ _; omega)))))
          have hG := hF; clear hF; clear hO; intro hO
          (try simp only [World.size_alloc1, World.size_drew, Nat.reduceAdd] at hO); (try simp only [upd, updI, List.map_cons, List.map_nil, eq_self, if_true, if_false, reduceIte, Nat.add_eq_left, Nat.left_eq_add, Nat.reduceEqDiff, List.set_cons_zero, List.set_cons_succ, hG] at hO); clear hG
          refine region_own (X := fun _ => True) [] (by kernel_rfl) (hO) (trivial) (by first | exact XStab.true | exact XStab.rd | exact XStab.rdIf) ?_
          clear hO
          refine Sim.sP (i := 0) (d := some 46) (h := ?_)
          refine Sim.sP (i := 1) (d := some 47) (h := ?_)
          refine Sim.sP (i := 2) (d := some 48) (h := ?_)
          refine Sim.sO (i := 3) (d := some 49) (v := ?_) (hy := ?_) (h := ?_)
          rotate_left
          · first | refine Or.inl ⟨by rfl, fun w hO => ?_⟩ | (refine Or.inr ⟨by rfl, ?_⟩; with_reducible rfl)
            first | done | (have hF := hO; (try simp only [Own, Item.Holds, apartI, CellsAt, Nat.reduceAdd, Nat.zero_add, List.mem_cons, List.not_mem_nil, or_false, forall_eq_or_imp, forall_eq, ne_eq, false_imp_iff, implies_true, and_true] at hF); ((have e0 := hO.2.row_cell (intC_get HTI.out); have e1 := hO.2.row_cell (intC_get HSI.out))); refine Out.same ?_; go_simp; all_goals with_reducible rfl)
          refine Sim.sP (i := 4) (d := some 50) (h := ?_)
          refine Sim.sP (i := 5) (d := some 51) (h := ?_)
          refine Sim.sP (i := 6) (d := some 52) (h := ?_)
          refine Sim.sP (i := 7) (d := some 53) (h := ?_)
          refine Sim.sP (i := 8) (d := some 54) (h := ?_)
          refine Sim.sP (i := 9) (d := some 55) (h := ?_)
          refine Sim.sP (i := 10) (d := some 56) (h := ?_)
          refine Sim.sP (i := 11) (d := some 57) (h := ?_)
          refine Sim.sP (i := 12) (d := some 58) (h := ?_)
          refine Sim.sP (i := 13) (d := some 59) (h := ?_)
          refine Sim.sP (i := 14) (d := some 60) (h := ?_)
          refine Sim.sO (i := 15) (d := some 61) (v := ?_) (hy := ?_) (h := ?_)
          rotate_left
          · first | refine Or.inl ⟨by rfl, fun w hO => ?_⟩ | (refine Or.inr ⟨by rfl, ?_⟩; with_reducible rfl)
            first | done | (have hF := hO; (try simp only [Own, Item.Holds, apartI, CellsAt, Nat.reduceAdd, Nat.zero_add, List.mem_cons, List.not_mem_nil, or_false, forall_eq_or_imp, forall_eq, ne_eq, false_imp_iff, implies_true, and_true] at hF); ((have e0 := hO.2.row_cell (intC_get HTI.out); have e1 := hO.2.row_cell (intC_get HSI.out))); refine Out.same ?_; go_simp; all_goals with_reducible rfl)
          refine Sim.sP (i := 16) (d := some 62) (h := ?_)
          refine Sim.sP (i := 17) (d := some 63) (h := ?_)
          refine Sim.sP (i := 18) (d := some 64) (h := ?_)
          refine Sim.sO (i := 19) (d := some 65) (v := ?_) (hy := ?_) (h := ?_)
          rotate_left
          · first | refine Or.inl ⟨by rfl, fun w hO => ?_⟩ | (refine Or.inr ⟨by rfl, ?_⟩; with_reducible rfl)
            first | done | (have hF := hO; (try simp only [Own, Item.Holds, apartI, CellsAt, Nat.reduceAdd, Nat.zero_add, List.mem_cons, List.not_mem_nil, or_false, forall_eq_or_imp, forall_eq, ne_eq, false_imp_iff, implies_true, and_true] at hF); ((have e0 := hO.2.row_cell (intC_get HTI.out); have e1 := hO.2.row_cell (intC_get HSI.out))); refine Out.same ?_; go_simp; all_goals with_reducible rfl)
          refine Sim.sP (i := 20) (d := some 66) (h := ?_)
          refine Sim.sP (i := 21) (d := some 67) (h := ?_)
          refine Sim.sP (i := 22) (d := some 68) (h := ?_)
          refine Sim.sP (i := 23) (d := some 69) (h := ?_)
          refine Sim.sP (i := 24) (d := some 70) (h := ?_)
          refine Sim.sP (i := 25) (d := some 71) (h := ?_)
          refine Sim.sP (i := 26) (d := some 72) (h := ?_)
          refine Sim.sP (i := 27) (d := some 73) (h := ?_)
          refine Sim.sP (i := 28) (d := some 74) (h := ?_)
          refine Sim.sP (i := 29) (d := some 75) (h := ?_)
          refine Sim.sO (i := 30) (d := some 76) (v := ?_) (hy := ?_) (h := ?_)
          rotate_left
          · first | refine Or.inl ⟨by rfl, fun w hO => ?_⟩ | (refine Or.inr ⟨by rfl, ?_⟩; with_reducible rfl)
            first | done | (refine Out.call (f := 24) (args := ?_) ?_ ?_; rotate_left; (focus (go_simp; all_goals with_reducible rfl)); exact HM.out _ _ _ hO.base (HA.out.below hO.base) (SlAt.of_row hO.1.1))
          refine Sim.sP (i := 31) (d := some 77) (h := ?_)
          refine Sim.sP (i := 32) (d := some 78) (h := ?_)
          refine Sim.sP (i := 33) (d := some 79) (h := ?_)
          refine Sim.sP (i := 34) (d := some 80) (h := ?_)
          refine Sim.sP (i := 35) (d := some 81) (h := ?_)
          refine Sim.sP (i := 36) (d := some 82) (h := ?_)
          refine Sim.sO (i := 37) (d := some 83) (v := ?_) (hy := ?_) (h := ?_)
          rotate_left
          · first | refine Or.inl ⟨by rfl, fun w hO => ?_⟩ | (refine Or.inr ⟨by rfl, ?_⟩; with_reducible rfl)
            first | done | (have hF := hO; (try simp only [Own, Item.Holds, apartI, CellsAt, Nat.reduceAdd, Nat.zero_add, List.mem_cons, List.not_mem_nil, or_false, forall_eq_or_imp, forall_eq, ne_eq, false_imp_iff, implies_true, and_true] at hF); ((have e0 := hO.2.row_cell (intC_get HTI.out); have e1 := hO.2.row_cell (intC_get HSI.out))); refine Out.same ?_; go_simp; all_goals with_reducible rfl)
          refine Sim.sP (i := 38) (d := some 84) (h := ?_)
          refine Sim.sO (i := 39) (d := some 85) (v := ?_) (hy := ?_) (h := ?_)
          rotate_left
          · first | refine Or.inl ⟨by rfl, fun w hO => ?_⟩ | (refine Or.inr ⟨by rfl, ?_⟩; with_reducible rfl)
            first | done | (refine Out.call (f := 36) (args := ?_) ?_ ?_; rotate_left; (focus (go_simp; all_goals with_reducible rfl)); exact HV.out _ hO.base)
          refine Sim.sP (i := 40) (d := some 86) (h := ?_)
          refine Sim.sP (i := 41) (d := some 87) (h := ?_)
          refine Sim.done (by kernel_rfl) (fun w1 hO hX => ?_) _
          (try simp only [World.size_alloc1, World.size_drew, Nat.reduceAdd] at hO); (try simp only [upd, updI, List.map_cons, List.map_nil, eq_self, if_true, if_false, reduceIte, Nat.add_eq_left, Nat.left_eq_add, Nat.reduceEqDiff, List.set_cons_zero, List.set_cons_succ] at hO)
          have hF := hO; (try simp only [Own, Item.Holds, apartI, CellsAt, Nat.reduceAdd, Nat.zero_add, List.mem_cons, List.not_mem_nil, or_false, forall_eq_or_imp, forall_eq, ne_eq, false_imp_iff, implies_true, and_true] at hF)
          go_wp2_with fail
          go_roundw
          case rel => exact ⟨p + 2, by omega, by go_num, hO.2⟩
          case measure => simp [intOf]; omega
  · have hl' : (1048576 : Int) < n0 := by omega
    go_enter Tryd.func8, Tryd.ntmps8
    go_wp2
    go_ret
    exact ⟨rfl, Below.refl _ _⟩
end Go.Proofs.YtmkhpafcgobfhaaDoor
