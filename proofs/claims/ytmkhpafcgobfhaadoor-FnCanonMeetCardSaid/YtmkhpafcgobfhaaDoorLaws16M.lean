/- The walk of FnCanonMeet, from what the functions answer. -/
import Derived.Test.YtmkhpafcgobfhaaDoorDraws16
import Derived.Test.YtmkhpafcgobfhaaDoorCon16
import Derived.Test.YtmkhpafcgobfhaaDoorCon5
import Derived.Test.YtmkhpafcgobfhaaDoorWalksNS
import Derived.Test.YtmkhpafcgobfhaaDoorLawsPitch
import Derived.Test.YtmkhpafcgobfhaaDoorRegionD
namespace Go.Proofs.YtmkhpafcgobfhaaDoor
set_option linter.unusedSimpArgs false
set_option linter.unusedVariables false
set_option maxRecDepth 8000
open Go.RowKit

set_option maxRecDepth 20000 in
set_option maxHeartbeats 4000000 in
theorem fnCanonMeet_of (v : Value) (n0 : Nat) (w : World) (hn : n0 ≤ maxLen) (h : BytesB w w.heap.size v n0) (ht : TabH w)
    (hS : CCn 30 w) (hI : CCn 29 w) (hV : CInt 36 vtZ w) (hM : CMf 24 w) :
    Calls Tryd.prog 9 #[v] w fun e w' => e = .returned (.bool true) ∧ Below w.heap.size w w' := by
  obtain ⟨a0, c0, rfl⟩ := h.form
  have hn' : (n0 : Int) ≤ 9223372036854775807 := by unfold maxLen at hn; omega
  by_cases hl : n0 ≤ 1048576
  · have hl' : (n0 : Int) ≤ 1048576 := by omega
    go_enter Tryd.func9, Tryd.ntmps9
    go_wp2_with (go_at_call 28; refine (DrawCanonOf_any _ n0 _ hn h).mono ?_; rintro e wd ⟨u, l, d, st, ha, hv, hl9, hd, hst, hha, rfl, hO1⟩)
    have hb0 := hO1.base
    have HT := hid (ht.below hb0)
    have HB0 := hid hb0
    have hs := SlAt.of_row hO1.1.1
    have hO := Own.start wd
    have hF := True.intro
    obtain ⟨n, hna⟩ : ∃ n, l.length = n := ⟨_, rfl⟩
    rw [hna] at hs hl9
    have HA := hid hs
    have n1 : n ≤ 1048576 := by omega
    have r1 : r64 d := by unfold r64; omega
    have r2 : r64 st := by unfold r64; omega
    have r3 : r64 ha := by unfold r64; omega
    obtain ⟨u8, hu8⟩ : ∃ x, caL l d st ha = x := ⟨_, rfl⟩
    obtain ⟨k8, hk8⟩ : ∃ x, u8.length = x := ⟨_, rfl⟩
    obtain ⟨b8, hb8⟩ : ∃ x, caB l d st ha = x := ⟨_, rfl⟩
    have HI := hid ((hI.to hb0).is hna n1 r1 r2 r3 hu8 hk8 hb8)
    have HS := hid ((hS.to hb0).is hna n1 r1 r2 r3 hu8 hk8 hb8)
    have HG := hid (fun va vb W (h1 : SlAt W va k8 6 (vcC u8)) (h2 : SlAt W vb k8 6 (vcC u8)) => sameVoice_same va vb u8 W (by rw [hk8]; exact h1) (by rw [hk8]; exact h2))
    obtain ⟨tz, htz⟩ : ∃ x, vtZ l = x := ⟨_, rfl⟩
    have hV' : CInt 36 vtZ wd := fun va v W hW => hV va v W (btr hb0 hW)
    have HV := hid (hV'.is (v := l) (by omega) htz)
    rw [hna] at HV
    have tz0 : tz ≤ 46080 := by
      rw [← htz]
      unfold vtZ
      split
      · rename_i h1
        exact (sum_all16 h1).2
      · omega
    have r4 : r64 (if 1 < tz then tz else 1) := by unfold r64; split <;> omega
    obtain ⟨u9, hu9⟩ : ∃ x, caL l (if 1 < tz then tz else 1) st ha = x := ⟨_, rfl⟩
    obtain ⟨k9, hk9⟩ : ∃ x, u9.length = x := ⟨_, rfl⟩
    cases hb9 : caB l (if 1 < tz then tz else 1) st ha
    · have HD := hid ((hI.to hb0).is hna n1 r4 r2 r3 hu9 hk9 hb9)
      clear hn h ht hI hS hV hV' hM hb0 hs hO1 hv htz hu8 hk8 hb8 hu9 hk9 hb9 hna hl9
      go_wp2_with (first | (go_at_call 29; apply own_at hO; (repeat (first | (with_reducible exact hO) | (with_reducible apply Own.alloc) | (with_reducible apply Own.drew) | ((with_reducible apply Own.set_at); (focus (show _ ≤ _; omega))))); have hG := hF; clear hF; clear hO; intro hO; refine own_call_rowB hO (fun hB => HI.out _ _ hB (HA.out.below hB)) ?_; clear hO; intro v w1 hO; (try simp only [World.size_alloc1, World.size_drew, Nat.reduceAdd] at hO); (try simp only [upd, updI, List.map_cons, List.map_nil, eq_self, if_true, if_false, reduceIte, Nat.add_eq_left, Nat.left_eq_add, Nat.reduceEqDiff, List.set_cons_zero, List.set_cons_succ, hG] at hO); clear hG; have hF := hO; (try simp only [Own, Item.Holds, apartI, CellsAt, Nat.reduceAdd, Nat.zero_add, List.mem_cons, List.not_mem_nil, or_false, forall_eq_or_imp, forall_eq, ne_eq, false_imp_iff, implies_true, and_true] at hF)) | (go_at_call 30; apply own_at hO; (repeat (first | (with_reducible exact hO) | (with_reducible apply Own.alloc) | (with_reducible apply Own.drew) | ((with_reducible apply Own.set_at); (focus (show _ ≤ _; omega))))); have hG := hF; clear hF; clear hO; intro hO; refine own_call_rowB hO (fun hB => HS.out _ _ hB (HA.out.below hB)) ?_; clear hO; intro v w1 hO; (try simp only [World.size_alloc1, World.size_drew, Nat.reduceAdd] at hO); (try simp only [upd, updI, List.map_cons, List.map_nil, eq_self, if_true, if_false, reduceIte, Nat.add_eq_left, Nat.left_eq_add, Nat.reduceEqDiff, List.set_cons_zero, List.set_cons_succ, hG] at hO); clear hG; have hF := hO; (try simp only [Own, Item.Holds, apartI, CellsAt, Nat.reduceAdd, Nat.zero_add, List.mem_cons, List.not_mem_nil, or_false, forall_eq_or_imp, forall_eq, ne_eq, false_imp_iff, implies_true, and_true] at hF)) | (go_at_call 31; apply own_at hO; (repeat (first | (with_reducible exact hO) | (with_reducible apply Own.alloc) | (with_reducible apply Own.drew) | ((with_reducible apply Own.set_at); (focus (show _ ≤ _; omega))))); have hG := hF; clear hF; clear hO; intro hO; refine own_callO hO (fun hW => HG.out _ _ _ (SlAt.of_row hW.2.1.1) (SlAt.of_row hW.1.1)) ?_; clear hO; intro w1 hO; (try simp only [World.size_alloc1, World.size_drew, Nat.reduceAdd] at hO); (try simp only [upd, updI, List.map_cons, List.map_nil, eq_self, if_true, if_false, reduceIte, Nat.add_eq_left, Nat.left_eq_add, Nat.reduceEqDiff, List.set_cons_zero, List.set_cons_succ, hG] at hO); clear hG; have hF := hO; (try simp only [Own, Item.Holds, apartI, CellsAt, Nat.reduceAdd, Nat.zero_add, List.mem_cons, List.not_mem_nil, or_false, forall_eq_or_imp, forall_eq, ne_eq, false_imp_iff, implies_true, and_true] at hF)))
      apply own_code hO
      (repeat (first | (with_reducible exact hO) | (with_reducible apply Own.alloc) | (with_reducible apply Own.drew) | ((with_reducible apply Own.set_at); (focus (show _ ≤ _; omega)))))
      have hG := hF; clear hF; clear hO; intro hO
      (try simp only [World.size_alloc1, World.size_drew, Nat.reduceAdd] at hO); (try simp only [upd, updI, List.map_cons, List.map_nil, eq_self, if_true, if_false, reduceIte, Nat.add_eq_left, Nat.left_eq_add, Nat.reduceEqDiff, List.set_cons_zero, List.set_cons_succ, hG] at hO); clear hG
      refine region_own (X := fun _ => True) [] (by kernel_rfl) (hO) (trivial) (by first | exact XStab.true | exact XStab.rd | exact XStab.rdIf) ?_
      clear hO
      refine Sim.sP (i := 0) (d := some 45) (h := ?_)
      refine Sim.sP (i := 1) (d := some 46) (h := ?_)
      refine Sim.sO (i := 2) (d := some 47) (v := ?_) (hy := ?_) (h := ?_)
      rotate_left
      · first | refine Or.inl ⟨by rfl, fun w hO => ?_⟩ | (refine Or.inr ⟨by rfl, ?_⟩; with_reducible rfl)
        first | done | (refine Out.call (f := 36) (args := ?_) ?_ ?_; rotate_left; (focus (go_simp; all_goals with_reducible rfl)); exact HV.out _ _ hO.base (HA.out.below hO.base))
      refine Sim.sO (i := 3) (d := some 48) (v := ?_) (hy := ?_) (h := ?_)
      rotate_left
      · first | refine Or.inl ⟨by rfl, fun w hO => ?_⟩ | (refine Or.inr ⟨by rfl, ?_⟩; with_reducible rfl)
        first | done | (have hF := hO; (try simp only [Own, Item.Holds, apartI, CellsAt, Nat.reduceAdd, Nat.zero_add, List.mem_cons, List.not_mem_nil, or_false, forall_eq_or_imp, forall_eq, ne_eq, false_imp_iff, implies_true, and_true] at hF); refine Out.same ?_; go_simp; all_goals with_reducible rfl)
      refine Sim.sO (i := 4) (d := some 49) (v := ?_) (hy := ?_) (h := ?_)
      rotate_left
      · first | refine Or.inl ⟨by rfl, fun w hO => ?_⟩ | (refine Or.inr ⟨by rfl, ?_⟩; with_reducible rfl)
        first | done | (have hF := hO; (try simp only [Own, Item.Holds, apartI, CellsAt, Nat.reduceAdd, Nat.zero_add, List.mem_cons, List.not_mem_nil, or_false, forall_eq_or_imp, forall_eq, ne_eq, false_imp_iff, implies_true, and_true] at hF); refine Out.same ?_; go_simp; all_goals with_reducible rfl)
      refine Sim.one' (i := 5) (oi := { dst := some 50, op := Op.call { callee := Callee.value (Operand.func 29), args := #[Operand.tmp 45, Operand.tmp 48, Operand.tmp 49], argTypes := #[28, 3, 31] }, type := 29, pos := "laws.go:2587", after := #[{ on := 0, ground := Ground.data }, { on := 3, ground := Ground.data }, { on := 4, ground := Ground.data }, { on := 2, ground := Ground.chain }], guard := none }) (by kernel_rfl) rfl (by rfl) (fun w0 hO hX K hK => ?_)
      have hF := hO; (try simp only [Own, Item.Holds, apartI, CellsAt, Nat.reduceAdd, Nat.zero_add, List.mem_cons, List.not_mem_nil, or_false, forall_eq_or_imp, forall_eq, ne_eq, false_imp_iff, implies_true, and_true] at hF)
      go_simp
      refine (HD.out _ _ hO.base (HA.out.below hO.base)).mono ?_
      rintro e wa ⟨ra, rfl, hra, hBa⟩
      apply hK _ _ _ (fun _ => True)
      · exact hO.addRow hBa hra
      · exact trivial
      · exact XStab.true
      · first | exact fun _ _ h => h.2 | exact fun h => absurd h (by decide)
      clear hra hBa
      clear hK K hF hO
      try simp only [Act.put, List.setIfInBounds_toArray, List.set_cons_zero, List.set_cons_succ]
      refine Sim.sP (i := 6) (d := some 44) (h := ?_)
      refine Sim.sP (i := 7) (d := some 51) (h := ?_)
      refine Sim.sP (i := 8) (d := some 52) (h := ?_)
      refine Sim.sP (i := 9) (d := some 10) (h := ?_)
      refine Sim.sP (i := 10) (d := some 11) (h := ?_)
      refine Sim.done (by kernel_rfl) (fun w1 hO hX => ?_) _
      (try simp only [World.size_alloc1, World.size_drew, Nat.reduceAdd] at hO); (try simp only [upd, updI, List.map_cons, List.map_nil, eq_self, if_true, if_false, reduceIte, Nat.add_eq_left, Nat.left_eq_add, Nat.reduceEqDiff, List.set_cons_zero, List.set_cons_succ] at hO)
      have hF := hO; (try simp only [Own, Item.Holds, apartI, CellsAt, Nat.reduceAdd, Nat.zero_add, List.mem_cons, List.not_mem_nil, or_false, forall_eq_or_imp, forall_eq, ne_eq, false_imp_iff, implies_true, and_true] at hF)
      go_wp2_with (first | (go_at_call 27; apply own_at hO; (repeat (first | (with_reducible exact hO) | (with_reducible apply Own.alloc) | (with_reducible apply Own.drew) | ((with_reducible apply Own.set_at); (focus (show _ ≤ _; omega))))); have hG := hF; clear hF; clear hO; intro hO; refine own_call hO (fun hB => alive_any _ (HT.out.below hB)) ?_; clear hO; intro w1 hO; (try simp only [World.size_alloc1, World.size_drew, Nat.reduceAdd] at hO); (try simp only [upd, updI, List.map_cons, List.map_nil, eq_self, if_true, if_false, reduceIte, Nat.add_eq_left, Nat.left_eq_add, Nat.reduceEqDiff, List.set_cons_zero, List.set_cons_succ, hG] at hO); clear hG; have hF := hO; (try simp only [Own, Item.Holds, apartI, CellsAt, Nat.reduceAdd, Nat.zero_add, List.mem_cons, List.not_mem_nil, or_false, forall_eq_or_imp, forall_eq, ne_eq, false_imp_iff, implies_true, and_true] at hF)))
      all_goals go_ret
      all_goals exact ⟨rfl, btr HB0.out (Own.base (by first | exact hO | (repeat (first | (with_reducible exact hO) | (with_reducible apply Own.alloc) | (with_reducible apply Own.drew) | ((with_reducible apply Own.set_at); (focus (show _ ≤ _; omega)))))))⟩
    · have hz9 : mfZ l u9 = -1 := by
        rw [← hu9]
        refine ca_late hb9 ?_
        rw [← htz]
        unfold vtZ
        rw [if_pos (shB_iff.1 (caB_iff.1 hb9).1).1]
        split <;> omega
      have hl61 : k9 ≤ 1048576 := by rw [← hk9, ← hu9, ca_len hb9]; omega
      have HM := hid ((hM.to hb0).is hna hk9 n1 hl61 hz9)
      have HD := hid ((hI.to hb0).is hna n1 r4 r2 r3 hu9 hk9 hb9)
      clear hn h ht hI hS hV hV' hM hb0 hs hO1 hv htz hu8 hk8 hb8 hu9 hk9 hb9 hna hl9 hz9 hl61
      go_wp2_with (first | (go_at_call 29; apply own_at hO; (repeat (first | (with_reducible exact hO) | (with_reducible apply Own.alloc) | (with_reducible apply Own.drew) | ((with_reducible apply Own.set_at); (focus (show _ ≤ _; omega))))); have hG := hF; clear hF; clear hO; intro hO; refine own_call_rowB hO (fun hB => HI.out _ _ hB (HA.out.below hB)) ?_; clear hO; intro v w1 hO; (try simp only [World.size_alloc1, World.size_drew, Nat.reduceAdd] at hO); (try simp only [upd, updI, List.map_cons, List.map_nil, eq_self, if_true, if_false, reduceIte, Nat.add_eq_left, Nat.left_eq_add, Nat.reduceEqDiff, List.set_cons_zero, List.set_cons_succ, hG] at hO); clear hG; have hF := hO; (try simp only [Own, Item.Holds, apartI, CellsAt, Nat.reduceAdd, Nat.zero_add, List.mem_cons, List.not_mem_nil, or_false, forall_eq_or_imp, forall_eq, ne_eq, false_imp_iff, implies_true, and_true] at hF)) | (go_at_call 30; apply own_at hO; (repeat (first | (with_reducible exact hO) | (with_reducible apply Own.alloc) | (with_reducible apply Own.drew) | ((with_reducible apply Own.set_at); (focus (show _ ≤ _; omega))))); have hG := hF; clear hF; clear hO; intro hO; refine own_call_rowB hO (fun hB => HS.out _ _ hB (HA.out.below hB)) ?_; clear hO; intro v w1 hO; (try simp only [World.size_alloc1, World.size_drew, Nat.reduceAdd] at hO); (try simp only [upd, updI, List.map_cons, List.map_nil, eq_self, if_true, if_false, reduceIte, Nat.add_eq_left, Nat.left_eq_add, Nat.reduceEqDiff, List.set_cons_zero, List.set_cons_succ, hG] at hO); clear hG; have hF := hO; (try simp only [Own, Item.Holds, apartI, CellsAt, Nat.reduceAdd, Nat.zero_add, List.mem_cons, List.not_mem_nil, or_false, forall_eq_or_imp, forall_eq, ne_eq, false_imp_iff, implies_true, and_true] at hF)) | (go_at_call 31; apply own_at hO; (repeat (first | (with_reducible exact hO) | (with_reducible apply Own.alloc) | (with_reducible apply Own.drew) | ((with_reducible apply Own.set_at); (focus (show _ ≤ _; omega))))); have hG := hF; clear hF; clear hO; intro hO; refine own_callO hO (fun hW => HG.out _ _ _ (SlAt.of_row hW.2.1.1) (SlAt.of_row hW.1.1)) ?_; clear hO; intro w1 hO; (try simp only [World.size_alloc1, World.size_drew, Nat.reduceAdd] at hO); (try simp only [upd, updI, List.map_cons, List.map_nil, eq_self, if_true, if_false, reduceIte, Nat.add_eq_left, Nat.left_eq_add, Nat.reduceEqDiff, List.set_cons_zero, List.set_cons_succ, hG] at hO); clear hG; have hF := hO; (try simp only [Own, Item.Holds, apartI, CellsAt, Nat.reduceAdd, Nat.zero_add, List.mem_cons, List.not_mem_nil, or_false, forall_eq_or_imp, forall_eq, ne_eq, false_imp_iff, implies_true, and_true] at hF)))
      apply own_code hO
      (repeat (first | (with_reducible exact hO) | (with_reducible apply Own.alloc) | (with_reducible apply Own.drew) | ((with_reducible apply Own.set_at); (focus (show _ ≤ _; omega)))))
      have hG := hF; clear hF; clear hO; intro hO
      (try simp only [World.size_alloc1, World.size_drew, Nat.reduceAdd] at hO); (try simp only [upd, updI, List.map_cons, List.map_nil, eq_self, if_true, if_false, reduceIte, Nat.add_eq_left, Nat.left_eq_add, Nat.reduceEqDiff, List.set_cons_zero, List.set_cons_succ, hG] at hO); clear hG
      refine region_own (X := fun _ => True) [] (by kernel_rfl) (hO) (trivial) (by first | exact XStab.true | exact XStab.rd | exact XStab.rdIf) ?_
      clear hO
      refine Sim.sP (i := 0) (d := some 45) (h := ?_)
      refine Sim.sP (i := 1) (d := some 46) (h := ?_)
      refine Sim.sO (i := 2) (d := some 47) (v := ?_) (hy := ?_) (h := ?_)
      rotate_left
      · first | refine Or.inl ⟨by rfl, fun w hO => ?_⟩ | (refine Or.inr ⟨by rfl, ?_⟩; with_reducible rfl)
        first | done | (refine Out.call (f := 36) (args := ?_) ?_ ?_; rotate_left; (focus (go_simp; all_goals with_reducible rfl)); exact HV.out _ _ hO.base (HA.out.below hO.base))
      refine Sim.sO (i := 3) (d := some 48) (v := ?_) (hy := ?_) (h := ?_)
      rotate_left
      · first | refine Or.inl ⟨by rfl, fun w hO => ?_⟩ | (refine Or.inr ⟨by rfl, ?_⟩; with_reducible rfl)
        first | done | (have hF := hO; (try simp only [Own, Item.Holds, apartI, CellsAt, Nat.reduceAdd, Nat.zero_add, List.mem_cons, List.not_mem_nil, or_false, forall_eq_or_imp, forall_eq, ne_eq, false_imp_iff, implies_true, and_true] at hF); refine Out.same ?_; go_simp; all_goals with_reducible rfl)
      refine Sim.sO (i := 4) (d := some 49) (v := ?_) (hy := ?_) (h := ?_)
      rotate_left
      · first | refine Or.inl ⟨by rfl, fun w hO => ?_⟩ | (refine Or.inr ⟨by rfl, ?_⟩; with_reducible rfl)
        first | done | (have hF := hO; (try simp only [Own, Item.Holds, apartI, CellsAt, Nat.reduceAdd, Nat.zero_add, List.mem_cons, List.not_mem_nil, or_false, forall_eq_or_imp, forall_eq, ne_eq, false_imp_iff, implies_true, and_true] at hF); refine Out.same ?_; go_simp; all_goals with_reducible rfl)
      refine Sim.one' (i := 5) (oi := { dst := some 50, op := Op.call { callee := Callee.value (Operand.func 29), args := #[Operand.tmp 45, Operand.tmp 48, Operand.tmp 49], argTypes := #[28, 3, 31] }, type := 29, pos := "laws.go:2587", after := #[{ on := 0, ground := Ground.data }, { on := 3, ground := Ground.data }, { on := 4, ground := Ground.data }, { on := 2, ground := Ground.chain }], guard := none }) (by kernel_rfl) rfl (by rfl) (fun w0 hO hX K hK => ?_)
      have hF := hO; (try simp only [Own, Item.Holds, apartI, CellsAt, Nat.reduceAdd, Nat.zero_add, List.mem_cons, List.not_mem_nil, or_false, forall_eq_or_imp, forall_eq, ne_eq, false_imp_iff, implies_true, and_true] at hF)
      go_simp
      refine (HD.out _ _ hO.base (HA.out.below hO.base)).mono ?_
      rintro e wa ⟨ra, rfl, hra, hBa⟩
      apply hK _ _ _ (fun _ => True)
      · exact hO.addRow hBa hra
      · exact trivial
      · exact XStab.true
      · first | exact fun _ _ h => h.2 | exact fun h => absurd h (by decide)
      clear hra hBa
      clear hK K hF hO
      try simp only [Act.put, List.setIfInBounds_toArray, List.set_cons_zero, List.set_cons_succ]
      refine Sim.sP (i := 6) (d := some 44) (h := ?_)
      refine Sim.sP (i := 7) (d := some 51) (h := ?_)
      refine Sim.sP (i := 8) (d := some 52) (h := ?_)
      refine Sim.sP (i := 9) (d := some 10) (h := ?_)
      refine Sim.sP (i := 10) (d := some 11) (h := ?_)
      refine Sim.done (by kernel_rfl) (fun w1 hO hX => ?_) _
      (try simp only [World.size_alloc1, World.size_drew, Nat.reduceAdd] at hO); (try simp only [upd, updI, List.map_cons, List.map_nil, eq_self, if_true, if_false, reduceIte, Nat.add_eq_left, Nat.left_eq_add, Nat.reduceEqDiff, List.set_cons_zero, List.set_cons_succ] at hO)
      have hF := hO; (try simp only [Own, Item.Holds, apartI, CellsAt, Nat.reduceAdd, Nat.zero_add, List.mem_cons, List.not_mem_nil, or_false, forall_eq_or_imp, forall_eq, ne_eq, false_imp_iff, implies_true, and_true] at hF)
      go_wp2_with (first | (go_at_call 24; apply own_at hO; (repeat (first | (with_reducible exact hO) | (with_reducible apply Own.alloc) | (with_reducible apply Own.drew) | ((with_reducible apply Own.set_at); (focus (show _ ≤ _; omega))))); have hG := hF; clear hF; clear hO; intro hO; refine own_callO hO (fun hW => HM.out _ _ _ hW.base (HA.out.below hW.base) (SlAt.of_row hW.1.1)) ?_; clear hO; intro w1 hO; (try simp only [World.size_alloc1, World.size_drew, Nat.reduceAdd] at hO); (try simp only [upd, updI, List.map_cons, List.map_nil, eq_self, if_true, if_false, reduceIte, Nat.add_eq_left, Nat.left_eq_add, Nat.reduceEqDiff, List.set_cons_zero, List.set_cons_succ, hG] at hO); clear hG; have hF := hO; (try simp only [Own, Item.Holds, apartI, CellsAt, Nat.reduceAdd, Nat.zero_add, List.mem_cons, List.not_mem_nil, or_false, forall_eq_or_imp, forall_eq, ne_eq, false_imp_iff, implies_true, and_true] at hF)) | (go_at_call 27; apply own_at hO; (repeat (first | (with_reducible exact hO) | (with_reducible apply Own.alloc) | (with_reducible apply Own.drew) | ((with_reducible apply Own.set_at); (focus (show _ ≤ _; omega))))); have hG := hF; clear hF; clear hO; intro hO; refine own_call hO (fun hB => alive_any _ (HT.out.below hB)) ?_; clear hO; intro w1 hO; (try simp only [World.size_alloc1, World.size_drew, Nat.reduceAdd] at hO); (try simp only [upd, updI, List.map_cons, List.map_nil, eq_self, if_true, if_false, reduceIte, Nat.add_eq_left, Nat.left_eq_add, Nat.reduceEqDiff, List.set_cons_zero, List.set_cons_succ, hG] at hO); clear hG; have hF := hO; (try simp only [Own, Item.Holds, apartI, CellsAt, Nat.reduceAdd, Nat.zero_add, List.mem_cons, List.not_mem_nil, or_false, forall_eq_or_imp, forall_eq, ne_eq, false_imp_iff, implies_true, and_true] at hF)))
      all_goals go_ret
      all_goals exact ⟨rfl, btr HB0.out (Own.base (by first | exact hO | (repeat (first | (with_reducible exact hO) | (with_reducible apply Own.alloc) | (with_reducible apply Own.drew) | ((with_reducible apply Own.set_at); (focus (show _ ≤ _; omega)))))))⟩
  · have hl' : (1048576 : Int) < n0 := by omega
    go_enter Tryd.func9, Tryd.ntmps9
    go_wp2
    go_ret
    exact ⟨rfl, Below.refl _ _⟩
end Go.Proofs.YtmkhpafcgobfhaaDoor
