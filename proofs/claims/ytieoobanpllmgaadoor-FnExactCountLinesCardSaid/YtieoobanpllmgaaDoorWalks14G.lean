/- Chapter 14 in the program: the faults of a line; good lines. -/
import Derived.Test.YtieoobanpllmgaaDoorWalks14F
import Derived.Test.YtieoobanpllmgaaDoorRegionD
namespace Go.Proofs.YtieoobanpllmgaaDoor
set_option linter.unusedSimpArgs false
set_option linter.unusedVariables false
set_option maxRecDepth 8000
open Go.RowKit Go.Joins

set_option maxRecDepth 8000 in
set_option maxHeartbeats 4000000 in
theorem cpI_is (f : Int) (va vb : Value) (c l : List Pt) (n m : Nat) (w : World) (hnl : c.length = n) (hml : l.length = m) (hc : SlAt w va n 3 (pcC c)) (hl : SlAt w vb m 3 (pcC l)) (hn : n ≤ 1048576) (hm : m ≤ 1048576) (hA : TabA w) (b : Bool) (hb : lfC f c l = b) :
    Calls Tryd.prog 43 #[.int .i64 f, va, vb] w fun e w' => e = .returned (.tuple #[if b = true then .agg #[.int .i64 f, va, vb] else .agg #[.int .i64 0, .slice none 0 0, .slice none 0 0], .bool b]) ∧ Below w.heap.size w w' := by
  have hO := Own.start w
  have hF := True.intro
  obtain ⟨A, ca, rfl, nb, _⟩ := hc.open
  obtain ⟨A', cb, rfl, mb, _⟩ := hl.open
  obtain ⟨u, hu⟩ : ∃ b, cvB f c = b := ⟨_, rfl⟩
  have HCV := hid (cvI_is hnl hc hn hA hu)
  obtain ⟨t, ht⟩ : ∃ b, (l.all pvP && decide (m ≤ 12)) = b := ⟨_, rfl⟩
  have HLV := hid (lvI_is hml hl hm ht)
  cases u
  · obtain rfl : b = false := by rw [← hb]; exact lf_cv hu
    clear hc hl hnl hml hb hu ht HLV
    go_enter Tryd.func43, Tryd.ntmps43
    go_wp2_with (go_at_call 49; apply own_at hO; (repeat (first | (with_reducible exact hO) | (with_reducible apply Own.alloc) | (with_reducible apply Own.drew) | ((with_reducible apply Own.set_at); (focus (show _ ≤ _; omega))))); have hG := hF; clear hF; clear hO; intro hO; refine own_call hO (fun hB => HCV.out _ hB) ?_; clear hO; intro w1 hO; (try simp only [World.size_alloc1, World.size_drew, Nat.reduceAdd] at hO); (try simp only [upd, updI, List.map_cons, List.map_nil, eq_self, if_true, if_false, reduceIte, Nat.add_eq_left, Nat.left_eq_add, Nat.reduceEqDiff, List.set_cons_zero, List.set_cons_succ, hG] at hO); clear hG; have hF := hO; (try simp only [Own, Item.Holds, apartI, CellsAt, Nat.reduceAdd, Nat.zero_add, List.mem_cons, List.not_mem_nil, or_false, forall_eq_or_imp, forall_eq, ne_eq, false_imp_iff, implies_true, and_true] at hF))
    apply own_end hO
    (repeat (first | (with_reducible exact hO) | (with_reducible apply Own.alloc) | (with_reducible apply Own.drew) | ((with_reducible apply Own.set_at); (focus (show _ ≤ _; omega)))))
    have hG := hF; clear hF; clear hO; intro hO
    refine own_ret (v := .tuple #[.agg #[.int .i64 0, .slice none 0 0, .slice none 0 0], .bool false]) hO ?_ rfl (fun hO => ⟨rfl, hO.base⟩)
    clear hO; intro w1 hO
    (try simp only [World.size_alloc1, World.size_drew, Nat.reduceAdd] at hO); (try simp only [upd, updI, List.map_cons, List.map_nil, eq_self, if_true, if_false, reduceIte, Nat.add_eq_left, Nat.left_eq_add, Nat.reduceEqDiff, List.set_cons_zero, List.set_cons_succ, hG] at hO); clear hG
    have hF := hO; (try simp only [Own, Item.Holds, apartI, CellsAt, Nat.reduceAdd, Nat.zero_add, List.mem_cons, List.not_mem_nil, or_false, forall_eq_or_imp, forall_eq, ne_eq, false_imp_iff, implies_true, and_true] at hF)
    simp [results, Tryd.results43, go_sem, hF]
  · by_cases hmn : m = n
    · subst hmn
      have h10 := (cvB_iff.1 hu).2.2.1
      cases t
      · obtain rfl : b = false := by
          rw [← hb]
          rw [hnl] at h10
          rw [decide_eq_true (show m ≤ 12 by omega), Bool.and_true] at ht
          unfold lfC
          rw [ht, Bool.and_false]
        clear hc hl hnl hml hb hu ht h10
        go_enter Tryd.func43, Tryd.ntmps43
        go_wp2_with (first | (go_at_call 49; apply own_at hO; (repeat (first | (with_reducible exact hO) | (with_reducible apply Own.alloc) | (with_reducible apply Own.drew) | ((with_reducible apply Own.set_at); (focus (show _ ≤ _; omega))))); have hG := hF; clear hF; clear hO; intro hO; refine own_call hO (fun hB => HCV.out _ hB) ?_; clear hO; intro w1 hO; (try simp only [World.size_alloc1, World.size_drew, Nat.reduceAdd] at hO); (try simp only [upd, updI, List.map_cons, List.map_nil, eq_self, if_true, if_false, reduceIte, Nat.add_eq_left, Nat.left_eq_add, Nat.reduceEqDiff, List.set_cons_zero, List.set_cons_succ, hG] at hO); clear hG; have hF := hO; (try simp only [Own, Item.Holds, apartI, CellsAt, Nat.reduceAdd, Nat.zero_add, List.mem_cons, List.not_mem_nil, or_false, forall_eq_or_imp, forall_eq, ne_eq, false_imp_iff, implies_true, and_true] at hF)) | (go_at_call 62; apply own_at hO; (repeat (first | (with_reducible exact hO) | (with_reducible apply Own.alloc) | (with_reducible apply Own.drew) | ((with_reducible apply Own.set_at); (focus (show _ ≤ _; omega))))); have hG := hF; clear hF; clear hO; intro hO; refine own_call hO (fun hB => HLV.out _ hB) ?_; clear hO; intro w1 hO; (try simp only [World.size_alloc1, World.size_drew, Nat.reduceAdd] at hO); (try simp only [upd, updI, List.map_cons, List.map_nil, eq_self, if_true, if_false, reduceIte, Nat.add_eq_left, Nat.left_eq_add, Nat.reduceEqDiff, List.set_cons_zero, List.set_cons_succ, hG] at hO); clear hG; have hF := hO; (try simp only [Own, Item.Holds, apartI, CellsAt, Nat.reduceAdd, Nat.zero_add, List.mem_cons, List.not_mem_nil, or_false, forall_eq_or_imp, forall_eq, ne_eq, false_imp_iff, implies_true, and_true] at hF)))
        apply own_end hO
        (repeat (first | (with_reducible exact hO) | (with_reducible apply Own.alloc) | (with_reducible apply Own.drew) | ((with_reducible apply Own.set_at); (focus (show _ ≤ _; omega)))))
        have hG := hF; clear hF; clear hO; intro hO
        refine own_ret (v := .tuple #[.agg #[.int .i64 0, .slice none 0 0, .slice none 0 0], .bool false]) hO ?_ rfl (fun hO => ⟨rfl, hO.base⟩)
        clear hO; intro w1 hO
        (try simp only [World.size_alloc1, World.size_drew, Nat.reduceAdd] at hO); (try simp only [upd, updI, List.map_cons, List.map_nil, eq_self, if_true, if_false, reduceIte, Nat.add_eq_left, Nat.left_eq_add, Nat.reduceEqDiff, List.set_cons_zero, List.set_cons_succ, hG] at hO); clear hG
        have hF := hO; (try simp only [Own, Item.Holds, apartI, CellsAt, Nat.reduceAdd, Nat.zero_add, List.mem_cons, List.not_mem_nil, or_false, forall_eq_or_imp, forall_eq, ne_eq, false_imp_iff, implies_true, and_true] at hF)
        simp [results, Tryd.results43, go_sem, hF]
      · obtain rfl : b = true := by
          rw [← hb]
          rw [Bool.and_eq_true] at ht
          exact lf_yes hu (by omega) (List.all_eq_true.1 ht.1)
        clear hc hl hnl hml hb hu ht h10
        go_enter Tryd.func43, Tryd.ntmps43
        go_wp2_with (first | (go_at_call 49; apply own_at hO; (repeat (first | (with_reducible exact hO) | (with_reducible apply Own.alloc) | (with_reducible apply Own.drew) | ((with_reducible apply Own.set_at); (focus (show _ ≤ _; omega))))); have hG := hF; clear hF; clear hO; intro hO; refine own_call hO (fun hB => HCV.out _ hB) ?_; clear hO; intro w1 hO; (try simp only [World.size_alloc1, World.size_drew, Nat.reduceAdd] at hO); (try simp only [upd, updI, List.map_cons, List.map_nil, eq_self, if_true, if_false, reduceIte, Nat.add_eq_left, Nat.left_eq_add, Nat.reduceEqDiff, List.set_cons_zero, List.set_cons_succ, hG] at hO); clear hG; have hF := hO; (try simp only [Own, Item.Holds, apartI, CellsAt, Nat.reduceAdd, Nat.zero_add, List.mem_cons, List.not_mem_nil, or_false, forall_eq_or_imp, forall_eq, ne_eq, false_imp_iff, implies_true, and_true] at hF)) | (go_at_call 62; apply own_at hO; (repeat (first | (with_reducible exact hO) | (with_reducible apply Own.alloc) | (with_reducible apply Own.drew) | ((with_reducible apply Own.set_at); (focus (show _ ≤ _; omega))))); have hG := hF; clear hF; clear hO; intro hO; refine own_call hO (fun hB => HLV.out _ hB) ?_; clear hO; intro w1 hO; (try simp only [World.size_alloc1, World.size_drew, Nat.reduceAdd] at hO); (try simp only [upd, updI, List.map_cons, List.map_nil, eq_self, if_true, if_false, reduceIte, Nat.add_eq_left, Nat.left_eq_add, Nat.reduceEqDiff, List.set_cons_zero, List.set_cons_succ, hG] at hO); clear hG; have hF := hO; (try simp only [Own, Item.Holds, apartI, CellsAt, Nat.reduceAdd, Nat.zero_add, List.mem_cons, List.not_mem_nil, or_false, forall_eq_or_imp, forall_eq, ne_eq, false_imp_iff, implies_true, and_true] at hF)))
        apply own_end hO
        (repeat (first | (with_reducible exact hO) | (with_reducible apply Own.alloc) | (with_reducible apply Own.drew) | ((with_reducible apply Own.set_at); (focus (show _ ≤ _; omega)))))
        have hG := hF; clear hF; clear hO; intro hO
        refine own_ret (v := .tuple #[.agg #[.int .i64 f, .slice A m ca, .slice A' m cb], .bool true]) hO ?_ rfl (fun hO => ⟨rfl, hO.base⟩)
        clear hO; intro w1 hO
        (try simp only [World.size_alloc1, World.size_drew, Nat.reduceAdd] at hO); (try simp only [upd, updI, List.map_cons, List.map_nil, eq_self, if_true, if_false, reduceIte, Nat.add_eq_left, Nat.left_eq_add, Nat.reduceEqDiff, List.set_cons_zero, List.set_cons_succ, hG] at hO); clear hG
        have hF := hO; (try simp only [Own, Item.Holds, apartI, CellsAt, Nat.reduceAdd, Nat.zero_add, List.mem_cons, List.not_mem_nil, or_false, forall_eq_or_imp, forall_eq, ne_eq, false_imp_iff, implies_true, and_true] at hF)
        simp [results, Tryd.results43, go_sem, hF]
    · have e1 : ((m : Int) == (n : Int)) = false := by simp; omega
      have e2 : ((m : Int) != (n : Int)) = true := by simp; omega
      have e3 : (m == n) = false := by simp [hmn]
      obtain rfl : b = false := by rw [← hb]; exact lf_ln (by omega)
      have HMN := hid hmn
      clear hc hl hnl hml hb hu ht hmn HLV
      go_enter Tryd.func43, Tryd.ntmps43
      go_wp2_with (go_at_call 49; apply own_at hO; (repeat (first | (with_reducible exact hO) | (with_reducible apply Own.alloc) | (with_reducible apply Own.drew) | ((with_reducible apply Own.set_at); (focus (show _ ≤ _; omega))))); have hG := hF; clear hF; clear hO; intro hO; refine own_call hO (fun hB => HCV.out _ hB) ?_; clear hO; intro w1 hO; (try simp only [World.size_alloc1, World.size_drew, Nat.reduceAdd] at hO); (try simp only [upd, updI, List.map_cons, List.map_nil, eq_self, if_true, if_false, reduceIte, Nat.add_eq_left, Nat.left_eq_add, Nat.reduceEqDiff, List.set_cons_zero, List.set_cons_succ, hG] at hO); clear hG; have hF := hO; (try simp only [Own, Item.Holds, apartI, CellsAt, Nat.reduceAdd, Nat.zero_add, List.mem_cons, List.not_mem_nil, or_false, forall_eq_or_imp, forall_eq, ne_eq, false_imp_iff, implies_true, and_true] at hF))
      apply own_end hO
      (repeat (first | (with_reducible exact hO) | (with_reducible apply Own.alloc) | (with_reducible apply Own.drew) | ((with_reducible apply Own.set_at); (focus (show _ ≤ _; omega)))))
      have hG := hF; clear hF; clear hO; intro hO
      refine own_ret (v := .tuple #[.agg #[.int .i64 0, .slice none 0 0, .slice none 0 0], .bool false]) hO ?_ rfl (fun hO => ⟨rfl, hO.base⟩)
      clear hO; intro w1 hO
      (try simp only [World.size_alloc1, World.size_drew, Nat.reduceAdd] at hO); (try simp only [upd, updI, List.map_cons, List.map_nil, eq_self, if_true, if_false, reduceIte, Nat.add_eq_left, Nat.left_eq_add, Nat.reduceEqDiff, List.set_cons_zero, List.set_cons_succ, hG] at hO); clear hG
      have hF := hO; (try simp only [Own, Item.Holds, apartI, CellsAt, Nat.reduceAdd, Nat.zero_add, List.mem_cons, List.not_mem_nil, or_false, forall_eq_or_imp, forall_eq, ne_eq, false_imp_iff, implies_true, and_true] at hF)
      simp [results, Tryd.results43, go_sem, hF]

set_option maxRecDepth 20000 in
set_option maxHeartbeats 8000000 in
theorem faI_any {f : Int} {va vb : Value} {c l : List Pt} {n : Nat} (W : World) (h : CpAt W f va vb c l n) :
    Calls Tryd.prog 44 #[.agg #[.int .i64 f, va, vb]] W (RowOut 100 2 (lfF f c l n).length (tnC (lfF f c l n)) W) := by
  have hO := Own.start W
  have hF := True.intro
  have H := hid h
  have hn10 := h.n10
  have hn2 := h.n2
  obtain ⟨p1, o1, c1, p2, o2, c2, rfl, rfl, g1, g2⟩ := h.open
  clear h
  go_enter Tryd.func44, Tryd.ntmps44
  go_wp2_with fail
  (apply own_code hO; (repeat (first | (with_reducible exact hO) | (with_reducible apply Own.alloc) | (with_reducible apply Own.drew) | ((with_reducible apply Own.set_at); (focus (show _ ≤ _; omega))))); have hG := hF; clear hF; clear hO; intro hO; (try simp only [World.size_alloc1, World.size_drew, Nat.reduceAdd] at hO); (try simp only [upd, updI, List.map_cons, List.map_nil, eq_self, if_true, if_false, reduceIte, Nat.add_eq_left, Nat.left_eq_add, Nat.reduceEqDiff, List.set_cons_zero, List.set_cons_succ, hG] at hO); clear hG; have hF := hO; (try simp only [Own, Item.Holds, apartI, CellsAt, Nat.reduceAdd, Nat.zero_add, List.mem_cons, List.not_mem_nil, or_false, forall_eq_or_imp, forall_eq, ne_eq, false_imp_iff, implies_true, and_true] at hF))
  go_loopw [3, 8] (fun u t wr => ∃ k : Nat, k ≤ n ∧ t = .int .i64 k ∧ Own W.heap.size (Below W.heap.size W) wr [.row 100 2 u (lfF f c l k).length (tnC (lfF f c l k)), .blk W.heap.size [.int .i64 f, .slice (some ⟨p1, o1, none⟩) n c1, .slice (some ⟨p2, o2, none⟩) n c2]]) (fun _ t _ => n - (intOf t).toNat)
  case atStart => exact ⟨0, by omega, rfl, Own.nilRow 100 2 hO⟩
  case round =>
    clear hO hF
    obtain ⟨k, hk, rfl, hO⟩ := hrel
    have hF := hO; (try simp only [Own, Item.Holds, apartI, CellsAt, Nat.reduceAdd, Nat.zero_add, List.mem_cons, List.not_mem_nil, or_false, forall_eq_or_imp, forall_eq, ne_eq, false_imp_iff, implies_true, and_true] at hF)
    by_cases he : k = n
    · subst he
      go_wp2_with fail
      go_ret
      exact RowOut.mk hO
    · have hkl : k < n := by omega
      have hkl2 : (k : Int) < n := by omega
      have hk0 : (0 : Int) ≤ (k : Int) := by omega
      obtain ⟨y, hy⟩ : ∃ x, c[k]? = some x := ⟨_, List.getElem?_eq_getElem (by have := H.out.hc; omega)⟩
      obtain ⟨q, hq⟩ : ∃ x, l[k]? = some x := ⟨_, List.getElem?_eq_getElem (by have := H.out.hl; omega)⟩
      obtain ⟨z, hz⟩ : ∃ z, oneZ f y q (k : Int) (n : Int) = z := ⟨_, rfl⟩
      have HT := hid (fun qr cr V hV hr => ffT_is H.out hy hq hz qr cr V hV hr)
      have hql := lfF_len f c l k
      rcases (show k = 0 ∨ ∃ p, k = p + 1 by cases k with | zero => exact Or.inl rfl | succ p => exact Or.inr ⟨p, rfl⟩) with h0 | ⟨p, rfl⟩
      · have HU := hid (show lfF f c l (k + 1) = wfL (lfF f c l k) (k : Int) z by subst h0; rw [← hz, ← H.out.hl]; exact lf_first hy hq)
        have k0 : decide ((0 : Int) < (k : Int)) = false := decide_eq_false (by omega)
        have k1 : ¬ (0 : Int) < (k : Int) := by omega
        have k2 : ¬ 0 < k := by omega
        obtain ⟨us, hus⟩ : ∃ u, lfF f c l k = u := ⟨_, rfl⟩
        rw [hus] at HU hO hql
        have hu9 : us.length ≤ 1000000000 := by omega
        clear he hy hq hz h0 hus
        go_wp2_with fail
        apply own_code hO
        (repeat (first | (with_reducible exact hO) | (with_reducible apply Own.alloc) | (with_reducible apply Own.drew) | ((with_reducible apply Own.set_at); (focus (show _ ≤ _; omega)))))
        have hG := hF; clear hF; clear hO; intro hO
        (try simp only [World.size_alloc1, World.size_drew, Nat.reduceAdd] at hO); (try simp only [upd, updI, List.map_cons, List.map_nil, eq_self, if_true, if_false, reduceIte, Nat.add_eq_left, Nat.left_eq_add, Nat.reduceEqDiff, List.set_cons_zero, List.set_cons_succ, hG] at hO); clear hG
        refine region_own (X := fun _ => True) [6] (by kernel_rfl) (hO) (trivial) (by first | exact XStab.true | exact XStab.rd | exact XStab.rdIf) ?_
        clear hO
        refine Sim.sP (i := 0) (d := some 11) (h := ?_)
        refine Sim.sP (i := 1) (d := some 12) (h := ?_)
        refine Sim.sD (i := 2) (d := some 13) (v := ?_) (D := [2, 5, 6, 7]) (hy := ?_) (h := ?_)
        rotate_left
        · first | refine Or.inl ⟨by rfl, fun w hO => ?_⟩ | (refine Or.inr ⟨by rfl, ?_⟩; with_reducible rfl)
          first | done | (have hF := hO; (try simp only [Own, Item.Holds, apartI, CellsAt, Nat.reduceAdd, Nat.zero_add, List.mem_cons, List.not_mem_nil, or_false, forall_eq_or_imp, forall_eq, ne_eq, false_imp_iff, implies_true, and_true] at hF); (skip); refine Out.same ?_; go_simp; all_goals with_reducible rfl)
        refine Sim.sP (i := 4) (d := some 15) (h := ?_)
        refine Sim.one' (i := 3) (oi := { dst := some 14, op := Op.call { callee := Callee.value (Operand.func 65), args := #[], argTypes := #[] }, type := 92, pos := "l14_counterpoint.go:103", after := #[], guard := none }) (by kernel_rfl) rfl (by rfl) (fun w0 hO hX K hK => ?_)
        have hF := hO; (try simp only [Own, Item.Holds, apartI, CellsAt, Nat.reduceAdd, Nat.zero_add, List.mem_cons, List.not_mem_nil, or_false, forall_eq_or_imp, forall_eq, ne_eq, false_imp_iff, implies_true, and_true] at hF)
        go_simp
        refine (trI_any _).mono ?_
        rintro e wa ⟨vr, rfl, hrow, hbw⟩
        have hO2 := hO.addRow hbw hrow
        obtain ⟨qr, cr, hvr, _, _⟩ := hO2.row_open (by omega)
        subst hvr
        apply hK _ _ _ (fun _ => True)
        · exact hO2
        · exact trivial
        · exact XStab.true
        · exact fun _ _ h => h.2
        clear hO2 hrow hbw
        clear hK K hF hO
        try simp only [Act.put, List.setIfInBounds_toArray, List.set_cons_zero, List.set_cons_succ]
        refine Sim.sO (i := 5) (d := some 16) (v := ?_) (hy := ?_) (h := ?_)
        rotate_left
        · first | refine Or.inl ⟨by rfl, fun w hO => ?_⟩ | (refine Or.inr ⟨by rfl, ?_⟩; with_reducible rfl)
          first | done | (refine Out.call (f := 64) (args := ?_) ?_ ?_; rotate_left; (focus (go_simp; all_goals with_reducible rfl)); exact HT.out _ _ _ hO.base (SlAt.of_row hO.1.1))
        refine Sim.one' (i := 6) (oi := { dst := some 17, op := Op.call { callee := Callee.value (Operand.func 63), args := #[Operand.tmp 11, Operand.tmp 12, Operand.tmp 16], argTypes := #[69, 3, 3] }, type := 69, pos := "l14_counterpoint.go:103", after := #[{ on := 0, ground := Ground.data }, { on := 1, ground := Ground.data }, { on := 5, ground := Ground.data }, { on := 5, ground := Ground.chain }], guard := none }) (by kernel_rfl) rfl (by rfl) (fun w0 hO hX K hK => ?_)
        (have hF := hO; (try simp only [Own, Item.Holds, apartI, CellsAt, Nat.reduceAdd, Nat.zero_add, List.mem_cons, List.not_mem_nil, or_false, forall_eq_or_imp, forall_eq, ne_eq, false_imp_iff, implies_true, and_true] at hF))
        go_simp
        refine (wfI_own _ _ _ _ hu9 hO.drop).mono ?_
        rintro e wa ⟨v', L', rfl, rfl, hO2⟩
        apply hK _ _ _ (fun _ => True)
        · exact hO2
        · exact trivial
        · exact XStab.true
        · first | exact fun _ _ h => h.2 | exact fun h => absurd h (by decide)
        clear hO hF hO2
        clear hK K
        try simp only [Act.put, List.setIfInBounds_toArray, List.set_cons_zero, List.set_cons_succ]
        refine Sim.sP (i := 7) (d := some 3) (h := ?_)
        refine Sim.done (by kernel_rfl) (fun w1 hO hX => ?_) _
        (try simp only [World.size_alloc1, World.size_drew, Nat.reduceAdd] at hO); (try simp only [upd, updI, List.map_cons, List.map_nil, eq_self, if_true, if_false, reduceIte, Nat.add_eq_left, Nat.left_eq_add, Nat.reduceEqDiff, List.set_cons_zero, List.set_cons_succ] at hO)
        have hF := hO; (try simp only [Own, Item.Holds, apartI, CellsAt, Nat.reduceAdd, Nat.zero_add, List.mem_cons, List.not_mem_nil, or_false, forall_eq_or_imp, forall_eq, ne_eq, false_imp_iff, implies_true, and_true] at hF)
        go_wp2_with fail
        go_roundw
        case rel => exact ⟨k + 1, by omega, by go_num, by rw [HU.out]; exact hO⟩
        case measure => simp [intOf]; omega
      · obtain ⟨x, hx⟩ : ∃ x, c[p]? = some x := ⟨_, List.getElem?_eq_getElem (by have := H.out.hc; omega)⟩
        obtain ⟨o, ho⟩ : ∃ x, l[p]? = some x := ⟨_, List.getElem?_eq_getElem (by have := H.out.hl; omega)⟩
        obtain ⟨t, ht⟩ : ∃ z, twoZ x o y q = z := ⟨_, rfl⟩
        have HS := hid (fun qr cr V hV hr => ffS_is H.out hx ho hy hq ht qr cr V hV hr)
        have hc1 : (((p + 1 : Nat)) : Int) = (p : Int) + 1 := by omega
        rw [hc1] at hz HT
        have HU := hid (show lfF f c l (p + 1 + 1) = wfL (wfL (lfF f c l (p + 1)) ((p : Int) + 1) z) ((p : Int) + 1) t by rw [← hz, ← ht, ← H.out.hl]; exact lf_next hx ho hy hq)
        have p0 : (0 : Int) ≤ (p : Int) := by omega
        have p1 : (0 : Int) < (p : Int) + 1 := by omega
        have p5 : decide ((0 : Int) < (p : Int) + 1) = true := decide_eq_true p1
        have p2 : (p : Int) < (n : Int) := by omega
        have p3 : (p : Int) + 1 < (n : Int) := by omega
        have p4 : (0 : Int) ≤ (p : Int) + 1 := by omega
        have wj : IntKind.i64.wrap ((p : Int) + 1 + 1) = (p : Int) + 1 + 1 := IntWalk.i64_in _ (by omega)
        obtain ⟨us, hus⟩ : ∃ u, lfF f c l (p + 1) = u := ⟨_, rfl⟩
        rw [hus] at HU hO hql
        have hu9 : us.length ≤ 1000000000 := by omega
        have hu8 := wf_len us ((p : Int) + 1) z
        have hu7 : (wfL us ((p : Int) + 1) z).length ≤ 1000000000 := by omega
        clear he hy hq hx ho hz ht hus hc1 hu8
        go_wp2_with fail
        apply own_code hO
        (repeat (first | (with_reducible exact hO) | (with_reducible apply Own.alloc) | (with_reducible apply Own.drew) | ((with_reducible apply Own.set_at); (focus (show _ ≤ _; omega)))))
        have hG := hF; clear hF; clear hO; intro hO
        (try simp only [World.size_alloc1, World.size_drew, Nat.reduceAdd] at hO); (try simp only [upd, updI, List.map_cons, List.map_nil, eq_self, if_true, if_false, reduceIte, Nat.add_eq_left, Nat.left_eq_add, Nat.reduceEqDiff, List.set_cons_zero, List.set_cons_succ, hG] at hO); clear hG
        refine region_own (X := fun _ => True) [6] (by kernel_rfl) (hO) (trivial) (by first | exact XStab.true | exact XStab.rd | exact XStab.rdIf) ?_
        clear hO
        refine Sim.sP (i := 0) (d := some 11) (h := ?_)
        refine Sim.sP (i := 1) (d := some 12) (h := ?_)
        refine Sim.sD (i := 2) (d := some 13) (v := ?_) (D := [2, 5, 6, 7]) (hy := ?_) (h := ?_)
        rotate_left
        · first | refine Or.inl ⟨by rfl, fun w hO => ?_⟩ | (refine Or.inr ⟨by rfl, ?_⟩; with_reducible rfl)
          first | done | (have hF := hO; (try simp only [Own, Item.Holds, apartI, CellsAt, Nat.reduceAdd, Nat.zero_add, List.mem_cons, List.not_mem_nil, or_false, forall_eq_or_imp, forall_eq, ne_eq, false_imp_iff, implies_true, and_true] at hF); (skip); refine Out.same ?_; go_simp; all_goals with_reducible rfl)
        refine Sim.sP (i := 4) (d := some 15) (h := ?_)
        refine Sim.one' (i := 3) (oi := { dst := some 14, op := Op.call { callee := Callee.value (Operand.func 65), args := #[], argTypes := #[] }, type := 92, pos := "l14_counterpoint.go:103", after := #[], guard := none }) (by kernel_rfl) rfl (by rfl) (fun w0 hO hX K hK => ?_)
        have hF := hO; (try simp only [Own, Item.Holds, apartI, CellsAt, Nat.reduceAdd, Nat.zero_add, List.mem_cons, List.not_mem_nil, or_false, forall_eq_or_imp, forall_eq, ne_eq, false_imp_iff, implies_true, and_true] at hF)
        go_simp
        refine (trI_any _).mono ?_
        rintro e wa ⟨vr, rfl, hrow, hbw⟩
        have hO2 := hO.addRow hbw hrow
        obtain ⟨qr, cr, hvr, _, _⟩ := hO2.row_open (by omega)
        subst hvr
        apply hK _ _ _ (fun _ => True)
        · exact hO2
        · exact trivial
        · exact XStab.true
        · exact fun _ _ h => h.2
        clear hO2 hrow hbw
        clear hK K hF hO
        try simp only [Act.put, List.setIfInBounds_toArray, List.set_cons_zero, List.set_cons_succ]
        refine Sim.sO (i := 5) (d := some 16) (v := ?_) (hy := ?_) (h := ?_)
        rotate_left
        · first | refine Or.inl ⟨by rfl, fun w hO => ?_⟩ | (refine Or.inr ⟨by rfl, ?_⟩; with_reducible rfl)
          first | done | (refine Out.call (f := 64) (args := ?_) ?_ ?_; rotate_left; (focus (go_simp; all_goals with_reducible rfl)); exact HT.out _ _ _ hO.base (SlAt.of_row hO.1.1))
        refine Sim.one' (i := 6) (oi := { dst := some 17, op := Op.call { callee := Callee.value (Operand.func 63), args := #[Operand.tmp 11, Operand.tmp 12, Operand.tmp 16], argTypes := #[69, 3, 3] }, type := 69, pos := "l14_counterpoint.go:103", after := #[{ on := 0, ground := Ground.data }, { on := 1, ground := Ground.data }, { on := 5, ground := Ground.data }, { on := 5, ground := Ground.chain }], guard := none }) (by kernel_rfl) rfl (by rfl) (fun w0 hO hX K hK => ?_)
        (have hF := hO; (try simp only [Own, Item.Holds, apartI, CellsAt, Nat.reduceAdd, Nat.zero_add, List.mem_cons, List.not_mem_nil, or_false, forall_eq_or_imp, forall_eq, ne_eq, false_imp_iff, implies_true, and_true] at hF))
        go_simp
        refine (wfI_own _ _ _ _ hu9 hO.drop).mono ?_
        rintro e wa ⟨v', L', rfl, rfl, hO2⟩
        apply hK _ _ _ (fun _ => True)
        · exact hO2
        · exact trivial
        · exact XStab.true
        · first | exact fun _ _ h => h.2 | exact fun h => absurd h (by decide)
        clear hO hF hO2
        clear hK K
        try simp only [Act.put, List.setIfInBounds_toArray, List.set_cons_zero, List.set_cons_succ]
        refine Sim.sP (i := 7) (d := some 3) (h := ?_)
        refine Sim.done (by kernel_rfl) (fun w1 hO hX => ?_) _
        (try simp only [World.size_alloc1, World.size_drew, Nat.reduceAdd] at hO); (try simp only [upd, updI, List.map_cons, List.map_nil, eq_self, if_true, if_false, reduceIte, Nat.add_eq_left, Nat.left_eq_add, Nat.reduceEqDiff, List.set_cons_zero, List.set_cons_succ] at hO)
        have hF := hO; (try simp only [Own, Item.Holds, apartI, CellsAt, Nat.reduceAdd, Nat.zero_add, List.mem_cons, List.not_mem_nil, or_false, forall_eq_or_imp, forall_eq, ne_eq, false_imp_iff, implies_true, and_true] at hF)
        clear HT hu9
        go_wp2_with fail
        apply own_code hO
        (repeat (first | (with_reducible exact hO) | (with_reducible apply Own.alloc) | (with_reducible apply Own.drew) | ((with_reducible apply Own.set_at); (focus (show _ ≤ _; omega)))))
        have hG := hF; clear hF; clear hO; intro hO
        (try simp only [World.size_alloc1, World.size_drew, Nat.reduceAdd] at hO); (try simp only [upd, updI, List.map_cons, List.map_nil, eq_self, if_true, if_false, reduceIte, Nat.add_eq_left, Nat.left_eq_add, Nat.reduceEqDiff, List.set_cons_zero, List.set_cons_succ, hG] at hO); clear hG
        refine region_own (X := fun _ => True) [6] (by kernel_rfl) (hO) (trivial) (by first | exact XStab.true | exact XStab.rd | exact XStab.rdIf) ?_
        clear hO
        refine Sim.sP (i := 0) (d := some 20) (h := ?_)
        refine Sim.sP (i := 1) (d := some 21) (h := ?_)
        refine Sim.sD (i := 2) (d := some 22) (v := ?_) (D := [2, 5, 6, 7]) (hy := ?_) (h := ?_)
        rotate_left
        · first | refine Or.inl ⟨by rfl, fun w hO => ?_⟩ | (refine Or.inr ⟨by rfl, ?_⟩; with_reducible rfl)
          first | done | (have hF := hO; (try simp only [Own, Item.Holds, apartI, CellsAt, Nat.reduceAdd, Nat.zero_add, List.mem_cons, List.not_mem_nil, or_false, forall_eq_or_imp, forall_eq, ne_eq, false_imp_iff, implies_true, and_true] at hF); (skip); refine Out.same ?_; go_simp; all_goals with_reducible rfl)
        refine Sim.sP (i := 4) (d := some 24) (h := ?_)
        refine Sim.one' (i := 3) (oi := { dst := some 23, op := Op.call { callee := Callee.value (Operand.func 66), args := #[], argTypes := #[] }, type := 92, pos := "l14_counterpoint.go:105", after := #[], guard := none }) (by kernel_rfl) rfl (by rfl) (fun w0 hO hX K hK => ?_)
        have hF := hO; (try simp only [Own, Item.Holds, apartI, CellsAt, Nat.reduceAdd, Nat.zero_add, List.mem_cons, List.not_mem_nil, or_false, forall_eq_or_imp, forall_eq, ne_eq, false_imp_iff, implies_true, and_true] at hF)
        go_simp
        refine (srI_any _).mono ?_
        rintro e wa ⟨vr, rfl, hrow, hbw⟩
        have hO2 := hO.addRow hbw hrow
        obtain ⟨qr, cr, hvr, _, _⟩ := hO2.row_open (by omega)
        subst hvr
        apply hK _ _ _ (fun _ => True)
        · exact hO2
        · exact trivial
        · exact XStab.true
        · exact fun _ _ h => h.2
        clear hO2 hrow hbw
        clear hK K hF hO
        try simp only [Act.put, List.setIfInBounds_toArray, List.set_cons_zero, List.set_cons_succ]
        refine Sim.sO (i := 5) (d := some 25) (v := ?_) (hy := ?_) (h := ?_)
        rotate_left
        · first | refine Or.inl ⟨by rfl, fun w hO => ?_⟩ | (refine Or.inr ⟨by rfl, ?_⟩; with_reducible rfl)
          first | done | (refine Out.call (f := 64) (args := ?_) ?_ ?_; rotate_left; (focus (go_simp; all_goals with_reducible rfl)); exact HS.out _ _ _ hO.base (SlAt.of_row hO.1.1))
        refine Sim.one' (i := 6) (oi := { dst := some 26, op := Op.call { callee := Callee.value (Operand.func 63), args := #[Operand.tmp 20, Operand.tmp 21, Operand.tmp 25], argTypes := #[69, 3, 3] }, type := 69, pos := "l14_counterpoint.go:105", after := #[{ on := 0, ground := Ground.data }, { on := 1, ground := Ground.data }, { on := 5, ground := Ground.data }, { on := 5, ground := Ground.chain }], guard := none }) (by kernel_rfl) rfl (by rfl) (fun w0 hO hX K hK => ?_)
        (have hF := hO; (try simp only [Own, Item.Holds, apartI, CellsAt, Nat.reduceAdd, Nat.zero_add, List.mem_cons, List.not_mem_nil, or_false, forall_eq_or_imp, forall_eq, ne_eq, false_imp_iff, implies_true, and_true] at hF))
        go_simp
        refine (wfI_own _ _ _ _ hu7 hO.drop).mono ?_
        rintro e wa ⟨v', L', rfl, rfl, hO2⟩
        apply hK _ _ _ (fun _ => True)
        · exact hO2
        · exact trivial
        · exact XStab.true
        · first | exact fun _ _ h => h.2 | exact fun h => absurd h (by decide)
        clear hO hF hO2
        clear hK K
        try simp only [Act.put, List.setIfInBounds_toArray, List.set_cons_zero, List.set_cons_succ]
        refine Sim.sP (i := 7) (d := some 3) (h := ?_)
        refine Sim.done (by kernel_rfl) (fun w1 hO hX => ?_) _
        (try simp only [World.size_alloc1, World.size_drew, Nat.reduceAdd] at hO); (try simp only [upd, updI, List.map_cons, List.map_nil, eq_self, if_true, if_false, reduceIte, Nat.add_eq_left, Nat.left_eq_add, Nat.reduceEqDiff, List.set_cons_zero, List.set_cons_succ] at hO)
        have hF := hO; (try simp only [Own, Item.Holds, apartI, CellsAt, Nat.reduceAdd, Nat.zero_add, List.mem_cons, List.not_mem_nil, or_false, forall_eq_or_imp, forall_eq, ne_eq, false_imp_iff, implies_true, and_true] at hF)
        go_wp2_with fail
        go_roundw
        case rel => exact ⟨p + 1 + 1, by omega, by go_num, by rw [HU.out]; exact hO⟩
        case measure => simp [intOf]; omega
theorem cp_of {f : Int} {va vb : Value} {c l : List Pt} {n m : Nat} {w : World} (hnl : c.length = n) (hml : l.length = m) (hc : SlAt w va n 3 (pcC c)) (hl : SlAt w vb m 3 (pcC l)) (hT : TabH w) (hA : TabA w) (h : lfC f c l = true) : m = n ∧ CpAt w f va vb c l n := by
  obtain ⟨h1, h2, h3⟩ := lfC_iff.1 h
  have h4 := cvB_iff.1 h1
  obtain rfl : m = n := by omega
  exact ⟨rfl, hnl, hml, hc, hl, cv_pv h1, h3, by omega, by omega, hT, hA⟩

set_option maxRecDepth 8000 in
set_option maxHeartbeats 4000000 in
theorem lgI_any (f : Int) (va vb : Value) (c l : List Pt) (w : World) (hc : SlAt w va c.length 3 (pcC c)) (hl : SlAt w vb l.length 3 (pcC l)) (hn : c.length ≤ 1048576) (hm : l.length ≤ 1048576) (hT : TabH w) (hA : TabA w) :
    Calls Tryd.prog 20 #[.int .i64 f, va, vb] w fun e w' => e = .returned (.bool (lgB f c l)) ∧ Below w.heap.size w w' := by
  have hO := Own.start w
  have hF := True.intro
  obtain ⟨b, hb⟩ : ∃ b, lfC f c l = b := ⟨_, rfl⟩
  have HCP := hid (fun W (hW : Below w.heap.size w W) => cpI_is f va vb c l _ _ W rfl rfl (hc.below hW) (hl.below hW) hn hm (hA.below hW) b hb)
  cases b
  · have HE := hid (lgB_no hb)
    obtain ⟨A, ca, hv, _⟩ := hc.open
    obtain ⟨A', cb, hv', _⟩ := hl.open
    subst hv hv'
    simp only [Bool.false_eq_true, if_false] at HCP
    clear hc hl hb
    go_enter Tryd.func20, Tryd.ntmps20
    go_wp2_with (go_at_call 43; apply own_at hO; (repeat (first | (with_reducible exact hO) | (with_reducible apply Own.alloc) | (with_reducible apply Own.drew) | ((with_reducible apply Own.set_at); (focus (show _ ≤ _; omega))))); have hG := hF; clear hF; clear hO; intro hO; refine own_call hO (fun hB => HCP.out _ hB) ?_; clear hO; intro w1 hO; (try simp only [World.size_alloc1, World.size_drew, Nat.reduceAdd] at hO); (try simp only [upd, updI, List.map_cons, List.map_nil, eq_self, if_true, if_false, reduceIte, Nat.add_eq_left, Nat.left_eq_add, Nat.reduceEqDiff, List.set_cons_zero, List.set_cons_succ, hG] at hO); clear hG; have hF := hO; (try simp only [Own, Item.Holds, apartI, CellsAt, Nat.reduceAdd, Nat.zero_add, List.mem_cons, List.not_mem_nil, or_false, forall_eq_or_imp, forall_eq, ne_eq, false_imp_iff, implies_true, and_true] at hF))
    go_ret
    exact ⟨ret_bool HE.out.symm, Own.base (by first | exact hO | (repeat (first | (with_reducible exact hO) | (with_reducible apply Own.alloc) | (with_reducible apply Own.drew) | ((with_reducible apply Own.set_at); (focus (show _ ≤ _; omega))))))⟩
  · obtain ⟨hmn, hcp⟩ := cp_of rfl rfl hc hl hT hA hb
    have HE := hid (lfZ_yes hb)
    have HB := hid hb
    have HFA := hid (fun W (hW : Below w.heap.size w W) => faI_any W (hcp.below hW))
    simp only [if_true] at HCP
    obtain ⟨p1, o1, c1, p2, o2, c2, hv, hv', _, _⟩ := hcp.open
    rw [hmn] at HE
    subst hv hv'
    clear hc hl hb hcp
    obtain ⟨n, hn9⟩ : ∃ n, c.length = n := ⟨_, rfl⟩
    simp only [hn9] at HCP HE HFA ⊢
    clear hmn hn9 hn hm
    obtain ⟨us, hus⟩ : ∃ u, lfF f c l n = u := ⟨_, rfl⟩
    rw [hus] at HFA HE
    obtain ⟨r, hr⟩ : ∃ r, us.length = r := ⟨_, rfl⟩
    rw [hr] at HFA
    by_cases hr0 : r = 0
    · have HV := hid (show lgB f c l = true by
        rw [hr0] at hr
        unfold lgB; rw [HB.out, HE.out, List.eq_nil_of_length_eq_zero hr]; rfl)
      subst hr0
      clear HE hus hr
      go_enter Tryd.func20, Tryd.ntmps20
      go_wp2_with (first | (go_at_call 43; apply own_at hO; (repeat (first | (with_reducible exact hO) | (with_reducible apply Own.alloc) | (with_reducible apply Own.drew) | ((with_reducible apply Own.set_at); (focus (show _ ≤ _; omega))))); have hG := hF; clear hF; clear hO; intro hO; refine own_call hO (fun hB => HCP.out _ hB) ?_; clear hO; intro w1 hO; (try simp only [World.size_alloc1, World.size_drew, Nat.reduceAdd] at hO); (try simp only [upd, updI, List.map_cons, List.map_nil, eq_self, if_true, if_false, reduceIte, Nat.add_eq_left, Nat.left_eq_add, Nat.reduceEqDiff, List.set_cons_zero, List.set_cons_succ, hG] at hO); clear hG; have hF := hO; (try simp only [Own, Item.Holds, apartI, CellsAt, Nat.reduceAdd, Nat.zero_add, List.mem_cons, List.not_mem_nil, or_false, forall_eq_or_imp, forall_eq, ne_eq, false_imp_iff, implies_true, and_true] at hF)) | ((go_at_call 44; apply own_at hO; (repeat (first | (with_reducible exact hO) | (with_reducible apply Own.alloc) | (with_reducible apply Own.drew) | ((with_reducible apply Own.set_at); (focus (show _ ≤ _; omega))))); have hG := hF; clear hF; clear hO; intro hO; refine own_call_row hO (fun hB => HFA.out _ hB) ?_; clear hO; intro v w1 hO; (try simp only [World.size_alloc1, World.size_drew, Nat.reduceAdd] at hO); (try simp only [upd, updI, List.map_cons, List.map_nil, eq_self, if_true, if_false, reduceIte, Nat.add_eq_left, Nat.left_eq_add, Nat.reduceEqDiff, List.set_cons_zero, List.set_cons_succ, hG] at hO); clear hG; have hF := hO; (try simp only [Own, Item.Holds, apartI, CellsAt, Nat.reduceAdd, Nat.zero_add, List.mem_cons, List.not_mem_nil, or_false, forall_eq_or_imp, forall_eq, ne_eq, false_imp_iff, implies_true, and_true] at hF)); obtain ⟨A9, c9, hv9⟩ := (SlAt.of_row hO.1.1).form; subst hv9))
      go_ret
      exact ⟨ret_bool HV.out.symm, Own.base (by first | exact hO | (repeat (first | (with_reducible exact hO) | (with_reducible apply Own.alloc) | (with_reducible apply Own.drew) | ((with_reducible apply Own.set_at); (focus (show _ ≤ _; omega))))))⟩
    · have hr1 : ((r : Int) == 0) = false := by simp; omega
      have hr2 : (r == 0) = false := by simp [hr0]
      have HV := hid (show lgB f c l = false by
        unfold lgB; rw [HB.out, HE.out]
        cases us with
        | nil => simp at hr; omega
        | cons x u => rfl)
      clear HE hus hr
      go_enter Tryd.func20, Tryd.ntmps20
      go_wp2_with (first | (go_at_call 43; apply own_at hO; (repeat (first | (with_reducible exact hO) | (with_reducible apply Own.alloc) | (with_reducible apply Own.drew) | ((with_reducible apply Own.set_at); (focus (show _ ≤ _; omega))))); have hG := hF; clear hF; clear hO; intro hO; refine own_call hO (fun hB => HCP.out _ hB) ?_; clear hO; intro w1 hO; (try simp only [World.size_alloc1, World.size_drew, Nat.reduceAdd] at hO); (try simp only [upd, updI, List.map_cons, List.map_nil, eq_self, if_true, if_false, reduceIte, Nat.add_eq_left, Nat.left_eq_add, Nat.reduceEqDiff, List.set_cons_zero, List.set_cons_succ, hG] at hO); clear hG; have hF := hO; (try simp only [Own, Item.Holds, apartI, CellsAt, Nat.reduceAdd, Nat.zero_add, List.mem_cons, List.not_mem_nil, or_false, forall_eq_or_imp, forall_eq, ne_eq, false_imp_iff, implies_true, and_true] at hF)) | ((go_at_call 44; apply own_at hO; (repeat (first | (with_reducible exact hO) | (with_reducible apply Own.alloc) | (with_reducible apply Own.drew) | ((with_reducible apply Own.set_at); (focus (show _ ≤ _; omega))))); have hG := hF; clear hF; clear hO; intro hO; refine own_call_row hO (fun hB => HFA.out _ hB) ?_; clear hO; intro v w1 hO; (try simp only [World.size_alloc1, World.size_drew, Nat.reduceAdd] at hO); (try simp only [upd, updI, List.map_cons, List.map_nil, eq_self, if_true, if_false, reduceIte, Nat.add_eq_left, Nat.left_eq_add, Nat.reduceEqDiff, List.set_cons_zero, List.set_cons_succ, hG] at hO); clear hG; have hF := hO; (try simp only [Own, Item.Holds, apartI, CellsAt, Nat.reduceAdd, Nat.zero_add, List.mem_cons, List.not_mem_nil, or_false, forall_eq_or_imp, forall_eq, ne_eq, false_imp_iff, implies_true, and_true] at hF)); obtain ⟨A9, c9, hv9⟩ := (SlAt.of_row hO.1.1).form; subst hv9))
      go_ret
      exact ⟨ret_bool HV.out.symm, Own.base (by first | exact hO | (repeat (first | (with_reducible exact hO) | (with_reducible apply Own.alloc) | (with_reducible apply Own.drew) | ((with_reducible apply Own.set_at); (focus (show _ ≤ _; omega))))))⟩
end Go.Proofs.YtieoobanpllmgaaDoor
