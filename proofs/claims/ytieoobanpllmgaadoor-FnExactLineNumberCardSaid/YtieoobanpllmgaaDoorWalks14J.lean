/- Chapter 14 in the program: the rules for tones and steps, one by one. -/
import Derived.Test.YtieoobanpllmgaaDoorWalks14I
import Derived.Test.YtieoobanpllmgaaDoorRegionD
namespace Go.Proofs.YtieoobanpllmgaaDoor
set_option linter.unusedSimpArgs false
set_option linter.unusedVariables false
set_option maxRecDepth 8000
open Go.RowKit Go.Joins

set_option maxHeartbeats 4000000 in
theorem okI_is {w : World} {f : Int} {va vb : Value} {c l : List Pt} {n k : Nat} {q : Pt} {b : Bool} (h : CpAt w f va vb c l n) (hq : l[k]? = some q) (hb : ikP f q = b) (W : World) (hW : Below w.heap.size w W) :
    Calls Tryd.prog 75 #[.agg #[.int .i64 f, va, vb], .int .i64 k] W fun e w' => e = .returned (.bool !b) ∧ Below W.heap.size W w' := by
  replace h := h.below hW
  clear hW w
  have hO := Own.start W
  have hF := True.intro
  obtain ⟨b1, o1, c1, b2, o2, c2, rfl, rfl, g1, g2⟩ := h.open
  have hk : k < n := by rw [← h.hl]; exact (List.getElem?_eq_some_iff.1 hq).1
  have hk2 : (k : Int) < (n : Int) := by omega
  have hk0 : (0 : Int) ≤ (k : Int) := by omega
  have HA := hid h.hA
  have HK := hid (fun V (hV : Below W.heap.size W V) => ikI14 hb V (HA.out.below hV))
  have HL := hid h.sl
  have HQ := hid hq
  clear h hq hb
  go_enter Tryd.func75, Tryd.ntmps75
  go_wp2_with fail
  apply own_code hO
  (repeat (first | (with_reducible exact hO) | (with_reducible apply Own.alloc) | (with_reducible apply Own.drew) | ((with_reducible apply Own.set_at); (focus (show _ ≤ _; omega)))))
  have hG := hF; clear hF; clear hO; intro hO
  (try simp only [World.size_alloc1, World.size_drew, Nat.reduceAdd] at hO); (try simp only [upd, updI, List.map_cons, List.map_nil, eq_self, if_true, if_false, reduceIte, Nat.add_eq_left, Nat.left_eq_add, Nat.reduceEqDiff, List.set_cons_zero, List.set_cons_succ, hG] at hO); clear hG
  refine region_own (X := fun _ => True) [] (by kernel_rfl) (hO) (trivial) (by first | exact XStab.true | exact XStab.rd | exact XStab.rdIf) ?_
  clear hO
  refine Sim.sP (i := 0) (d := some 5) (h := ?_)
  refine Sim.sO (i := 1) (d := some 6) (v := ?_) (hy := ?_) (h := ?_)
  rotate_left
  · first | refine Or.inl ⟨by rfl, fun w hO => ?_⟩ | (refine Or.inr ⟨by rfl, ?_⟩; with_reducible rfl)
    first | done | (have hF := hO; (try simp only [Own, Item.Holds, apartI, CellsAt, Nat.reduceAdd, Nat.zero_add, List.mem_cons, List.not_mem_nil, or_false, forall_eq_or_imp, forall_eq, ne_eq, false_imp_iff, implies_true, and_true] at hF); ((have ⟨y0, y1, y2⟩ := ptAt (HL.out.below hO.base) HQ.out)); refine Out.same ?_; go_simp; all_goals with_reducible rfl)
  refine Sim.sP (i := 2) (d := some 7) (h := ?_)
  refine Sim.sO (i := 3) (d := some 8) (v := ?_) (hy := ?_) (h := ?_)
  rotate_left
  · first | refine Or.inl ⟨by rfl, fun w hO => ?_⟩ | (refine Or.inr ⟨by rfl, ?_⟩; with_reducible rfl)
    first | done | (have hF := hO; (try simp only [Own, Item.Holds, apartI, CellsAt, Nat.reduceAdd, Nat.zero_add, List.mem_cons, List.not_mem_nil, or_false, forall_eq_or_imp, forall_eq, ne_eq, false_imp_iff, implies_true, and_true] at hF); ((have ⟨y0, y1, y2⟩ := ptAt (HL.out.below hO.base) HQ.out)); refine Out.same ?_; go_simp; all_goals with_reducible rfl)
  refine Sim.sP (i := 4) (d := some 9) (h := ?_)
  refine Sim.sP (i := 5) (d := some 10) (h := ?_)
  refine Sim.sO (i := 6) (d := some 11) (v := ?_) (hy := ?_) (h := ?_)
  rotate_left
  · first | refine Or.inl ⟨by rfl, fun w hO => ?_⟩ | (refine Or.inr ⟨by rfl, ?_⟩; with_reducible rfl)
    first | done | (have hF := hO; (try simp only [Own, Item.Holds, apartI, CellsAt, Nat.reduceAdd, Nat.zero_add, List.mem_cons, List.not_mem_nil, or_false, forall_eq_or_imp, forall_eq, ne_eq, false_imp_iff, implies_true, and_true] at hF); ((have ⟨y0, y1, y2⟩ := ptAt (HL.out.below hO.base) HQ.out)); refine Out.same ?_; go_simp; all_goals with_reducible rfl)
  refine Sim.sO (i := 7) (d := some 12) (v := ?_) (hy := ?_) (h := ?_)
  rotate_left
  · first | refine Or.inl ⟨by rfl, fun w hO => ?_⟩ | (refine Or.inr ⟨by rfl, ?_⟩; with_reducible rfl)
    first | done | (refine Out.call (f := 68) (args := ?_) ?_ ?_; rotate_left; (focus (go_simp; all_goals with_reducible rfl)); exact HK.out _ hO.base)
  refine Sim.sP (i := 8) (d := some 13) (h := ?_)
  refine Sim.sP (i := 9) (d := some 4) (h := ?_)
  refine Sim.done (by kernel_rfl) (fun w1 hO hX => ?_) _
  (try simp only [World.size_alloc1, World.size_drew, Nat.reduceAdd] at hO); (try simp only [upd, updI, List.map_cons, List.map_nil, eq_self, if_true, if_false, reduceIte, Nat.add_eq_left, Nat.left_eq_add, Nat.reduceEqDiff, List.set_cons_zero, List.set_cons_succ] at hO)
  have hF := hO; (try simp only [Own, Item.Holds, apartI, CellsAt, Nat.reduceAdd, Nat.zero_add, List.mem_cons, List.not_mem_nil, or_false, forall_eq_or_imp, forall_eq, ne_eq, false_imp_iff, implies_true, and_true] at hF)
  go_wp2
  go_ret
  exact ⟨rfl, Own.base (by first | exact hO | (repeat (first | (with_reducible exact hO) | (with_reducible apply Own.alloc) | (with_reducible apply Own.drew) | ((with_reducible apply Own.set_at); (focus (show _ ≤ _; omega))))))⟩

set_option maxHeartbeats 4000000 in
theorem tfI_is {w : World} {f : Int} {va vb : Value} {c l : List Pt} {n k : Nat} {y q : Pt} {b : Bool} (h : CpAt w f va vb c l n) (hy : c[k]? = some y) (hq : l[k]? = some q) (hb : inB (kyP q - kyP y) 0 16 = b) (W : World) (hW : Below w.heap.size w W) :
    Calls Tryd.prog 76 #[.agg #[.int .i64 f, va, vb], .int .i64 k] W fun e w' => e = .returned (.bool !b) ∧ Below W.heap.size W w' := by
  replace h := h.below hW
  clear hW w
  have hO := Own.start W
  have hF := True.intro
  obtain ⟨b1, o1, c1, b2, o2, c2, rfl, rfl, g1, g2⟩ := h.open
  obtain ⟨z, hz⟩ : ∃ z, kyP q - kyP y = z := ⟨_, rfl⟩
  have HAB := hid (fun V hV => abI_is h hy hq hz V hV)
  rw [hz] at hb
  clear h hy hq hz g1 g2
  by_cases h0 : z < 0
  · have HE := hid (show inB z 0 16 = false by rw [← Bool.not_eq_true, inB_iff]; omega)
    rw [HE.out] at hb
    subst hb
    go_enter Tryd.func76, Tryd.ntmps76
    go_wp2_with (go_at_call 86; apply own_at hO; (repeat (first | (with_reducible exact hO) | (with_reducible apply Own.alloc) | (with_reducible apply Own.drew) | ((with_reducible apply Own.set_at); (focus (show _ ≤ _; omega))))); have hG := hF; clear hF; clear hO; intro hO; refine own_call hO (fun hB => HAB.out _ hB) ?_; clear hO; intro w1 hO; (try simp only [World.size_alloc1, World.size_drew, Nat.reduceAdd] at hO); (try simp only [upd, updI, List.map_cons, List.map_nil, eq_self, if_true, if_false, reduceIte, Nat.add_eq_left, Nat.left_eq_add, Nat.reduceEqDiff, List.set_cons_zero, List.set_cons_succ, hG] at hO); clear hG; have hF := hO; (try simp only [Own, Item.Holds, apartI, CellsAt, Nat.reduceAdd, Nat.zero_add, List.mem_cons, List.not_mem_nil, or_false, forall_eq_or_imp, forall_eq, ne_eq, false_imp_iff, implies_true, and_true] at hF))
    go_ret
    exact ⟨rfl, Own.base (by first | exact hO | (repeat (first | (with_reducible exact hO) | (with_reducible apply Own.alloc) | (with_reducible apply Own.drew) | ((with_reducible apply Own.set_at); (focus (show _ ≤ _; omega))))))⟩
  · by_cases h1 : 16 < z
    · have HE := hid (show inB z 0 16 = false by rw [← Bool.not_eq_true, inB_iff]; omega)
      rw [HE.out] at hb
      subst hb
      go_enter Tryd.func76, Tryd.ntmps76
      go_wp2_with (go_at_call 86; apply own_at hO; (repeat (first | (with_reducible exact hO) | (with_reducible apply Own.alloc) | (with_reducible apply Own.drew) | ((with_reducible apply Own.set_at); (focus (show _ ≤ _; omega))))); have hG := hF; clear hF; clear hO; intro hO; refine own_call hO (fun hB => HAB.out _ hB) ?_; clear hO; intro w1 hO; (try simp only [World.size_alloc1, World.size_drew, Nat.reduceAdd] at hO); (try simp only [upd, updI, List.map_cons, List.map_nil, eq_self, if_true, if_false, reduceIte, Nat.add_eq_left, Nat.left_eq_add, Nat.reduceEqDiff, List.set_cons_zero, List.set_cons_succ, hG] at hO); clear hG; have hF := hO; (try simp only [Own, Item.Holds, apartI, CellsAt, Nat.reduceAdd, Nat.zero_add, List.mem_cons, List.not_mem_nil, or_false, forall_eq_or_imp, forall_eq, ne_eq, false_imp_iff, implies_true, and_true] at hF))
      go_ret
      exact ⟨rfl, Own.base (by first | exact hO | (repeat (first | (with_reducible exact hO) | (with_reducible apply Own.alloc) | (with_reducible apply Own.drew) | ((with_reducible apply Own.set_at); (focus (show _ ≤ _; omega))))))⟩
    · have HE := hid (show inB z 0 16 = true by rw [inB_iff]; omega)
      rw [HE.out] at hb
      subst hb
      go_enter Tryd.func76, Tryd.ntmps76
      go_wp2_with (go_at_call 86; apply own_at hO; (repeat (first | (with_reducible exact hO) | (with_reducible apply Own.alloc) | (with_reducible apply Own.drew) | ((with_reducible apply Own.set_at); (focus (show _ ≤ _; omega))))); have hG := hF; clear hF; clear hO; intro hO; refine own_call hO (fun hB => HAB.out _ hB) ?_; clear hO; intro w1 hO; (try simp only [World.size_alloc1, World.size_drew, Nat.reduceAdd] at hO); (try simp only [upd, updI, List.map_cons, List.map_nil, eq_self, if_true, if_false, reduceIte, Nat.add_eq_left, Nat.left_eq_add, Nat.reduceEqDiff, List.set_cons_zero, List.set_cons_succ, hG] at hO); clear hG; have hF := hO; (try simp only [Own, Item.Holds, apartI, CellsAt, Nat.reduceAdd, Nat.zero_add, List.mem_cons, List.not_mem_nil, or_false, forall_eq_or_imp, forall_eq, ne_eq, false_imp_iff, implies_true, and_true] at hF))
      go_ret
      exact ⟨ret_bool (by simp; omega), Own.base (by first | exact hO | (repeat (first | (with_reducible exact hO) | (with_reducible apply Own.alloc) | (with_reducible apply Own.drew) | ((with_reducible apply Own.set_at); (focus (show _ ≤ _; omega))))))⟩

set_option maxHeartbeats 4000000 in
theorem dsI_is {w : World} {f : Int} {va vb : Value} {c l : List Pt} {n k : Nat} {y q : Pt} {b : Bool} (h : CpAt w f va vb c l n) (hy : c[k]? = some y) (hq : l[k]? = some q) (hb : dsB ((kyP q - kyP y) % 12) = b) (W : World) (hW : Below w.heap.size w W) :
    Calls Tryd.prog 77 #[.agg #[.int .i64 f, va, vb], .int .i64 k] W fun e w' => e = .returned (.bool b) ∧ Below W.heap.size W w' := by
  replace h := h.below hW
  clear hW w
  have hO := Own.start W
  have hF := True.intro
  obtain ⟨b1, o1, c1, b2, o2, c2, rfl, rfl, g1, g2⟩ := h.open
  obtain ⟨z, hz⟩ : ∃ z, (kyP q - kyP y) % 12 = z := ⟨_, rfl⟩
  have HCL := hid (fun V hV => clI_is h hy hq hz V hV)
  have HHS := hid (fun V => hasI_is (c := 3174) (m := z) (b := b) (Or.inr rfl) (by omega) (by omega) (by unfold hsB; rw [if_neg (by decide), ← hz]; exact hb) V)
  clear h hy hq hz g1 g2 hb
  go_enter Tryd.func77, Tryd.ntmps77
  go_wp2_with (first | (go_at_call 88; apply own_at hO; (repeat (first | (with_reducible exact hO) | (with_reducible apply Own.alloc) | (with_reducible apply Own.drew) | ((with_reducible apply Own.set_at); (focus (show _ ≤ _; omega))))); have hG := hF; clear hF; clear hO; intro hO; refine own_call hO (fun hB => HCL.out _ hB) ?_; clear hO; intro w1 hO; (try simp only [World.size_alloc1, World.size_drew, Nat.reduceAdd] at hO); (try simp only [upd, updI, List.map_cons, List.map_nil, eq_self, if_true, if_false, reduceIte, Nat.add_eq_left, Nat.left_eq_add, Nat.reduceEqDiff, List.set_cons_zero, List.set_cons_succ, hG] at hO); clear hG; have hF := hO; (try simp only [Own, Item.Holds, apartI, CellsAt, Nat.reduceAdd, Nat.zero_add, List.mem_cons, List.not_mem_nil, or_false, forall_eq_or_imp, forall_eq, ne_eq, false_imp_iff, implies_true, and_true] at hF)) | (go_at_call 87; apply own_at hO; (repeat (first | (with_reducible exact hO) | (with_reducible apply Own.alloc) | (with_reducible apply Own.drew) | ((with_reducible apply Own.set_at); (focus (show _ ≤ _; omega))))); have hG := hF; clear hF; clear hO; intro hO; refine own_call hO (fun hB => HHS.out _) ?_; clear hO; intro w1 hO; (try simp only [World.size_alloc1, World.size_drew, Nat.reduceAdd] at hO); (try simp only [upd, updI, List.map_cons, List.map_nil, eq_self, if_true, if_false, reduceIte, Nat.add_eq_left, Nat.left_eq_add, Nat.reduceEqDiff, List.set_cons_zero, List.set_cons_succ, hG] at hO); clear hG; have hF := hO; (try simp only [Own, Item.Holds, apartI, CellsAt, Nat.reduceAdd, Nat.zero_add, List.mem_cons, List.not_mem_nil, or_false, forall_eq_or_imp, forall_eq, ne_eq, false_imp_iff, implies_true, and_true] at hF)))
  go_ret
  exact ⟨rfl, Own.base (by first | exact hO | (repeat (first | (with_reducible exact hO) | (with_reducible apply Own.alloc) | (with_reducible apply Own.drew) | ((with_reducible apply Own.set_at); (focus (show _ ≤ _; omega))))))⟩

/-- A tone is the first or the last one and must not be. -/
def wrB (k n : Nat) (m : Int) : Bool := if k = 0 then !(m == 0 || m == 7) else if k = n - 1 then !(m == 0) else false

set_option maxHeartbeats 4000000 in
theorem weI_is {w : World} {f : Int} {va vb : Value} {c l : List Pt} {n k : Nat} {y q : Pt} {b : Bool} (h : CpAt w f va vb c l n) (hy : c[k]? = some y) (hq : l[k]? = some q) (hb : wrB k n ((kyP q - kyP y) % 12) = b) (W : World) (hW : Below w.heap.size w W) :
    Calls Tryd.prog 78 #[.agg #[.int .i64 f, va, vb], .int .i64 k] W fun e w' => e = .returned (.bool b) ∧ Below W.heap.size W w' := by
  replace h := h.below hW
  clear hW w
  have hO := Own.start W
  have hF := True.intro
  have hn2 := h.n2
  have hn10 := h.n10
  obtain ⟨b1, o1, c1, b2, o2, c2, rfl, rfl, g1, g2⟩ := h.open
  obtain ⟨z, hz⟩ : ∃ z, (kyP q - kyP y) % 12 = z := ⟨_, rfl⟩
  have HCL := hid (fun V hV => clI_is h hy hq hz V hV)
  have HHS := hid (fun V => hasI_is (c := 129) (m := z) (b := (z == 0 || z == 7)) (Or.inl rfl) (by omega) (by omega) (by unfold hsB; rw [if_pos rfl]) V)
  rw [hz] at hb
  clear h hy hq hz g1 g2
  have wn : IntKind.i64.wrap ((n : Int) - 1) = (n : Int) - 1 := IntWalk.i64_in _ (by omega)
  by_cases hk0 : k = 0
  · have HE := hid (show b = !(z == 0 || z == 7) by rw [← hb]; unfold wrB; rw [if_pos hk0])
    subst hk0
    clear hb
    rw [show ((0 : Nat) : Int) = 0 from rfl] at HCL ⊢
    obtain ⟨u, hu⟩ : ∃ u, (z == 0 || z == 7) = u := ⟨_, rfl⟩
    rw [hu] at HE HHS
    clear hu
    go_enter Tryd.func78, Tryd.ntmps78
    go_wp2_with (first | (go_at_call 88; apply own_at hO; (repeat (first | (with_reducible exact hO) | (with_reducible apply Own.alloc) | (with_reducible apply Own.drew) | ((with_reducible apply Own.set_at); (focus (show _ ≤ _; omega))))); have hG := hF; clear hF; clear hO; intro hO; refine own_call hO (fun hB => HCL.out _ hB) ?_; clear hO; intro w1 hO; (try simp only [World.size_alloc1, World.size_drew, Nat.reduceAdd] at hO); (try simp only [upd, updI, List.map_cons, List.map_nil, eq_self, if_true, if_false, reduceIte, Nat.add_eq_left, Nat.left_eq_add, Nat.reduceEqDiff, List.set_cons_zero, List.set_cons_succ, hG] at hO); clear hG; have hF := hO; (try simp only [Own, Item.Holds, apartI, CellsAt, Nat.reduceAdd, Nat.zero_add, List.mem_cons, List.not_mem_nil, or_false, forall_eq_or_imp, forall_eq, ne_eq, false_imp_iff, implies_true, and_true] at hF)) | (go_at_call 87; apply own_at hO; (repeat (first | (with_reducible exact hO) | (with_reducible apply Own.alloc) | (with_reducible apply Own.drew) | ((with_reducible apply Own.set_at); (focus (show _ ≤ _; omega))))); have hG := hF; clear hF; clear hO; intro hO; refine own_call hO (fun hB => HHS.out _) ?_; clear hO; intro w1 hO; (try simp only [World.size_alloc1, World.size_drew, Nat.reduceAdd] at hO); (try simp only [upd, updI, List.map_cons, List.map_nil, eq_self, if_true, if_false, reduceIte, Nat.add_eq_left, Nat.left_eq_add, Nat.reduceEqDiff, List.set_cons_zero, List.set_cons_succ, hG] at hO); clear hG; have hF := hO; (try simp only [Own, Item.Holds, apartI, CellsAt, Nat.reduceAdd, Nat.zero_add, List.mem_cons, List.not_mem_nil, or_false, forall_eq_or_imp, forall_eq, ne_eq, false_imp_iff, implies_true, and_true] at hF)))
    go_ret
    exact ⟨ret_bool HE.out.symm, Own.base (by first | exact hO | (repeat (first | (with_reducible exact hO) | (with_reducible apply Own.alloc) | (with_reducible apply Own.drew) | ((with_reducible apply Own.set_at); (focus (show _ ≤ _; omega))))))⟩
  · have k1 : ((k : Int) == 0) = false := by simp [hk0]
    by_cases hkn : k = n - 1
    · have HE := hid (show b = !(z == 0) by rw [← hb]; unfold wrB; rw [if_neg hk0, if_pos hkn])
      have k2 : ((k : Int) == (n : Int) - 1) = true := by simp; omega
      clear hb
      have HKN := hid hkn
      clear hkn hk0
      go_enter Tryd.func78, Tryd.ntmps78
      go_wp2_with (go_at_call 88; apply own_at hO; (repeat (first | (with_reducible exact hO) | (with_reducible apply Own.alloc) | (with_reducible apply Own.drew) | ((with_reducible apply Own.set_at); (focus (show _ ≤ _; omega))))); have hG := hF; clear hF; clear hO; intro hO; refine own_call hO (fun hB => HCL.out _ hB) ?_; clear hO; intro w1 hO; (try simp only [World.size_alloc1, World.size_drew, Nat.reduceAdd] at hO); (try simp only [upd, updI, List.map_cons, List.map_nil, eq_self, if_true, if_false, reduceIte, Nat.add_eq_left, Nat.left_eq_add, Nat.reduceEqDiff, List.set_cons_zero, List.set_cons_succ, hG] at hO); clear hG; have hF := hO; (try simp only [Own, Item.Holds, apartI, CellsAt, Nat.reduceAdd, Nat.zero_add, List.mem_cons, List.not_mem_nil, or_false, forall_eq_or_imp, forall_eq, ne_eq, false_imp_iff, implies_true, and_true] at hF))
      go_ret
      exact ⟨ret_bool (by rw [HE.out]; rfl), Own.base (by first | exact hO | (repeat (first | (with_reducible exact hO) | (with_reducible apply Own.alloc) | (with_reducible apply Own.drew) | ((with_reducible apply Own.set_at); (focus (show _ ≤ _; omega))))))⟩
    · have HE := hid (show b = false by rw [← hb]; unfold wrB; rw [if_neg hk0, if_neg hkn])
      have k2 : ((k : Int) == (n : Int) - 1) = false := by simp; omega
      clear hb
      have HKN := hid hkn
      clear hkn hk0
      go_enter Tryd.func78, Tryd.ntmps78
      go_wp2_with fail
      go_ret
      exact ⟨ret_bool HE.out.symm, Own.base (by first | exact hO | (repeat (first | (with_reducible exact hO) | (with_reducible apply Own.alloc) | (with_reducible apply Own.drew) | ((with_reducible apply Own.set_at); (focus (show _ ≤ _; omega))))))⟩

set_option maxHeartbeats 4000000 in
theorem rpI_is {w : World} {f : Int} {va vb : Value} {c l : List Pt} {n p : Nat} {o q : Pt} {z : Int} (h : CpAt w f va vb c l n) (ho : l[p]? = some o) (hq : l[p + 1]? = some q) (hz : kyP q - kyP o = z) (W : World) (hW : Below w.heap.size w W) :
    Calls Tryd.prog 79 #[.agg #[.int .i64 f, va, vb], .int .i64 ((p : Int) + 1)] W fun e w' => e = .returned (.bool (z == 0)) ∧ Below W.heap.size W w' := by
  replace h := h.below hW
  clear hW w
  have hO := Own.start W
  have hF := True.intro
  obtain ⟨b1, o1, c1, b2, o2, c2, rfl, rfl, g1, g2⟩ := h.open
  have HSP := hid (fun V hV => spI_is h ho hq hz V hV)
  clear h ho hq hz g1 g2
  go_enter Tryd.func79, Tryd.ntmps79
  go_wp2_with (go_at_call 89; apply own_at hO; (repeat (first | (with_reducible exact hO) | (with_reducible apply Own.alloc) | (with_reducible apply Own.drew) | ((with_reducible apply Own.set_at); (focus (show _ ≤ _; omega))))); have hG := hF; clear hF; clear hO; intro hO; refine own_call hO (fun hB => HSP.out _ hB) ?_; clear hO; intro w1 hO; (try simp only [World.size_alloc1, World.size_drew, Nat.reduceAdd] at hO); (try simp only [upd, updI, List.map_cons, List.map_nil, eq_self, if_true, if_false, reduceIte, Nat.add_eq_left, Nat.left_eq_add, Nat.reduceEqDiff, List.set_cons_zero, List.set_cons_succ, hG] at hO); clear hG; have hF := hO; (try simp only [Own, Item.Holds, apartI, CellsAt, Nat.reduceAdd, Nat.zero_add, List.mem_cons, List.not_mem_nil, or_false, forall_eq_or_imp, forall_eq, ne_eq, false_imp_iff, implies_true, and_true] at hF))
  go_ret
  exact ⟨rfl, Own.base (by first | exact hO | (repeat (first | (with_reducible exact hO) | (with_reducible apply Own.alloc) | (with_reducible apply Own.drew) | ((with_reducible apply Own.set_at); (focus (show _ ≤ _; omega))))))⟩

set_option maxHeartbeats 4000000 in
theorem leI_is {w : World} {f : Int} {va vb : Value} {c l : List Pt} {n p : Nat} {o q : Pt} {z : Int} {b : Bool} (h : CpAt w f va vb c l n) (ho : l[p]? = some o) (hq : l[p + 1]? = some q) (hz : kyP q - kyP o = z) (hb : inB z (-9) 9 = b) (W : World) (hW : Below w.heap.size w W) :
    Calls Tryd.prog 80 #[.agg #[.int .i64 f, va, vb], .int .i64 ((p : Int) + 1)] W fun e w' => e = .returned (.bool !b) ∧ Below W.heap.size W w' := by
  replace h := h.below hW
  clear hW w
  have hO := Own.start W
  have hF := True.intro
  obtain ⟨b1, o1, c1, b2, o2, c2, rfl, rfl, g1, g2⟩ := h.open
  have HSP := hid (fun V hV => spI_is h ho hq hz V hV)
  clear h ho hq hz g1 g2
  by_cases h0 : z < -9
  · have HE := hid (show inB z (-9) 9 = false by rw [← Bool.not_eq_true, inB_iff]; omega)
    rw [HE.out] at hb
    subst hb
    go_enter Tryd.func80, Tryd.ntmps80
    go_wp2_with (go_at_call 89; apply own_at hO; (repeat (first | (with_reducible exact hO) | (with_reducible apply Own.alloc) | (with_reducible apply Own.drew) | ((with_reducible apply Own.set_at); (focus (show _ ≤ _; omega))))); have hG := hF; clear hF; clear hO; intro hO; refine own_call hO (fun hB => HSP.out _ hB) ?_; clear hO; intro w1 hO; (try simp only [World.size_alloc1, World.size_drew, Nat.reduceAdd] at hO); (try simp only [upd, updI, List.map_cons, List.map_nil, eq_self, if_true, if_false, reduceIte, Nat.add_eq_left, Nat.left_eq_add, Nat.reduceEqDiff, List.set_cons_zero, List.set_cons_succ, hG] at hO); clear hG; have hF := hO; (try simp only [Own, Item.Holds, apartI, CellsAt, Nat.reduceAdd, Nat.zero_add, List.mem_cons, List.not_mem_nil, or_false, forall_eq_or_imp, forall_eq, ne_eq, false_imp_iff, implies_true, and_true] at hF))
    go_ret
    exact ⟨rfl, Own.base (by first | exact hO | (repeat (first | (with_reducible exact hO) | (with_reducible apply Own.alloc) | (with_reducible apply Own.drew) | ((with_reducible apply Own.set_at); (focus (show _ ≤ _; omega))))))⟩
  · by_cases h1 : 9 < z
    · have HE := hid (show inB z (-9) 9 = false by rw [← Bool.not_eq_true, inB_iff]; omega)
      rw [HE.out] at hb
      subst hb
      go_enter Tryd.func80, Tryd.ntmps80
      go_wp2_with (go_at_call 89; apply own_at hO; (repeat (first | (with_reducible exact hO) | (with_reducible apply Own.alloc) | (with_reducible apply Own.drew) | ((with_reducible apply Own.set_at); (focus (show _ ≤ _; omega))))); have hG := hF; clear hF; clear hO; intro hO; refine own_call hO (fun hB => HSP.out _ hB) ?_; clear hO; intro w1 hO; (try simp only [World.size_alloc1, World.size_drew, Nat.reduceAdd] at hO); (try simp only [upd, updI, List.map_cons, List.map_nil, eq_self, if_true, if_false, reduceIte, Nat.add_eq_left, Nat.left_eq_add, Nat.reduceEqDiff, List.set_cons_zero, List.set_cons_succ, hG] at hO); clear hG; have hF := hO; (try simp only [Own, Item.Holds, apartI, CellsAt, Nat.reduceAdd, Nat.zero_add, List.mem_cons, List.not_mem_nil, or_false, forall_eq_or_imp, forall_eq, ne_eq, false_imp_iff, implies_true, and_true] at hF))
      go_ret
      exact ⟨rfl, Own.base (by first | exact hO | (repeat (first | (with_reducible exact hO) | (with_reducible apply Own.alloc) | (with_reducible apply Own.drew) | ((with_reducible apply Own.set_at); (focus (show _ ≤ _; omega))))))⟩
    · have HE := hid (show inB z (-9) 9 = true by rw [inB_iff]; omega)
      rw [HE.out] at hb
      subst hb
      go_enter Tryd.func80, Tryd.ntmps80
      go_wp2_with (go_at_call 89; apply own_at hO; (repeat (first | (with_reducible exact hO) | (with_reducible apply Own.alloc) | (with_reducible apply Own.drew) | ((with_reducible apply Own.set_at); (focus (show _ ≤ _; omega))))); have hG := hF; clear hF; clear hO; intro hO; refine own_call hO (fun hB => HSP.out _ hB) ?_; clear hO; intro w1 hO; (try simp only [World.size_alloc1, World.size_drew, Nat.reduceAdd] at hO); (try simp only [upd, updI, List.map_cons, List.map_nil, eq_self, if_true, if_false, reduceIte, Nat.add_eq_left, Nat.left_eq_add, Nat.reduceEqDiff, List.set_cons_zero, List.set_cons_succ, hG] at hO); clear hG; have hF := hO; (try simp only [Own, Item.Holds, apartI, CellsAt, Nat.reduceAdd, Nat.zero_add, List.mem_cons, List.not_mem_nil, or_false, forall_eq_or_imp, forall_eq, ne_eq, false_imp_iff, implies_true, and_true] at hF))
      go_ret
      exact ⟨ret_bool (by simp; omega), Own.base (by first | exact hO | (repeat (first | (with_reducible exact hO) | (with_reducible apply Own.alloc) | (with_reducible apply Own.drew) | ((with_reducible apply Own.set_at); (focus (show _ ≤ _; omega))))))⟩

/-- Two tones go in parallels with the cantus. -/
def paB (m m' : Int) : Bool := (m == 0 || m == 7) && m == m'

set_option maxHeartbeats 4000000 in
theorem paI_is {w : World} {f : Int} {va vb : Value} {c l : List Pt} {n p : Nat} {x o y q : Pt} {b : Bool} (h : CpAt w f va vb c l n) (hx : c[p]? = some x) (ho : l[p]? = some o) (hy : c[p + 1]? = some y) (hq : l[p + 1]? = some q) (hb : paB ((kyP q - kyP y) % 12) ((kyP o - kyP x) % 12) = b) (W : World) (hW : Below w.heap.size w W) :
    Calls Tryd.prog 81 #[.agg #[.int .i64 f, va, vb], .int .i64 ((p : Int) + 1)] W fun e w' => e = .returned (.bool b) ∧ Below W.heap.size W w' := by
  replace h := h.below hW
  clear hW w
  have hO := Own.start W
  have hF := True.intro
  have hk : p + 1 < n := by rw [← h.hl]; exact (List.getElem?_eq_some_iff.1 hq).1
  have hn10 := h.n10
  have wi : IntKind.i64.wrap ((p : Int) + 1 - 1) = (p : Int) := by rw [show (p : Int) + 1 - 1 = (p : Int) by omega]; exact IntWalk.i64_in _ (by omega)
  have wi2 : IntKind.i64.wrap (p : Int) = (p : Int) := IntWalk.i64_in _ (by omega)
  obtain ⟨b1, o1, c1, b2, o2, c2, rfl, rfl, g1, g2⟩ := h.open
  obtain ⟨m, hm⟩ : ∃ z, (kyP q - kyP y) % 12 = z := ⟨_, rfl⟩
  obtain ⟨m', hm'⟩ : ∃ z, (kyP o - kyP x) % 12 = z := ⟨_, rfl⟩
  have HCL := hid (fun V hV => clI_is h hy hq hm V hV)
  have HCM := hid (fun V hV => clI_is h hx ho hm' V hV)
  rw [show ((p + 1 : Nat) : Int) = (p : Int) + 1 from rfl] at HCL
  obtain ⟨u, hu⟩ : ∃ u, (m == 0 || m == 7) = u := ⟨_, rfl⟩
  have HHS := hid (fun V => hasI_is (c := 129) (m := m) (b := u) (Or.inl rfl) (by omega) (by omega) (by unfold hsB; rw [if_pos rfl]; exact hu) V)
  rw [hm, hm'] at hb
  unfold paB at hb
  rw [hu] at hb
  have HE := hid hb
  clear h hx ho hy hq hm hm' g1 g2 hb hu hk
  cases u
  · go_enter Tryd.func81, Tryd.ntmps81
    go_wp2_with (first | ((go_at_call 88; apply own_at hO; (repeat (first | (with_reducible exact hO) | (with_reducible apply Own.alloc) | (with_reducible apply Own.drew) | ((with_reducible apply Own.set_at); (focus (show _ ≤ _; omega))))); have hG := hF; clear hF; clear hO; intro hO; refine own_call hO (fun hB => HCL.out _ hB) ?_; clear hO; intro w1 hO; (try simp only [World.size_alloc1, World.size_drew, Nat.reduceAdd] at hO); (try simp only [upd, updI, List.map_cons, List.map_nil, eq_self, if_true, if_false, reduceIte, Nat.add_eq_left, Nat.left_eq_add, Nat.reduceEqDiff, List.set_cons_zero, List.set_cons_succ, hG] at hO); clear hG; have hF := hO; (try simp only [Own, Item.Holds, apartI, CellsAt, Nat.reduceAdd, Nat.zero_add, List.mem_cons, List.not_mem_nil, or_false, forall_eq_or_imp, forall_eq, ne_eq, false_imp_iff, implies_true, and_true] at hF)); clear HCL) | (go_at_call 87; apply own_at hO; (repeat (first | (with_reducible exact hO) | (with_reducible apply Own.alloc) | (with_reducible apply Own.drew) | ((with_reducible apply Own.set_at); (focus (show _ ≤ _; omega))))); have hG := hF; clear hF; clear hO; intro hO; refine own_call hO (fun hB => HHS.out _) ?_; clear hO; intro w1 hO; (try simp only [World.size_alloc1, World.size_drew, Nat.reduceAdd] at hO); (try simp only [upd, updI, List.map_cons, List.map_nil, eq_self, if_true, if_false, reduceIte, Nat.add_eq_left, Nat.left_eq_add, Nat.reduceEqDiff, List.set_cons_zero, List.set_cons_succ, hG] at hO); clear hG; have hF := hO; (try simp only [Own, Item.Holds, apartI, CellsAt, Nat.reduceAdd, Nat.zero_add, List.mem_cons, List.not_mem_nil, or_false, forall_eq_or_imp, forall_eq, ne_eq, false_imp_iff, implies_true, and_true] at hF)))
    go_ret
    exact ⟨ret_bool (by rw [← HE.out]; rfl), Own.base (by first | exact hO | (repeat (first | (with_reducible exact hO) | (with_reducible apply Own.alloc) | (with_reducible apply Own.drew) | ((with_reducible apply Own.set_at); (focus (show _ ≤ _; omega))))))⟩
  · go_enter Tryd.func81, Tryd.ntmps81
    go_wp2_with fail
    (go_at_call 88; apply own_at hO; (repeat (first | (with_reducible exact hO) | (with_reducible apply Own.alloc) | (with_reducible apply Own.drew) | ((with_reducible apply Own.set_at); (focus (show _ ≤ _; omega))))); have hG := hF; clear hF; clear hO; intro hO; refine own_call hO (fun hB => HCL.out _ hB) ?_; clear hO; intro w1 hO; (try simp only [World.size_alloc1, World.size_drew, Nat.reduceAdd] at hO); (try simp only [upd, updI, List.map_cons, List.map_nil, eq_self, if_true, if_false, reduceIte, Nat.add_eq_left, Nat.left_eq_add, Nat.reduceEqDiff, List.set_cons_zero, List.set_cons_succ, hG] at hO); clear hG; have hF := hO; (try simp only [Own, Item.Holds, apartI, CellsAt, Nat.reduceAdd, Nat.zero_add, List.mem_cons, List.not_mem_nil, or_false, forall_eq_or_imp, forall_eq, ne_eq, false_imp_iff, implies_true, and_true] at hF))
    go_wp2_with fail
    (go_at_call 87; apply own_at hO; (repeat (first | (with_reducible exact hO) | (with_reducible apply Own.alloc) | (with_reducible apply Own.drew) | ((with_reducible apply Own.set_at); (focus (show _ ≤ _; omega))))); have hG := hF; clear hF; clear hO; intro hO; refine own_call hO (fun hB => HHS.out _) ?_; clear hO; intro w1 hO; (try simp only [World.size_alloc1, World.size_drew, Nat.reduceAdd] at hO); (try simp only [upd, updI, List.map_cons, List.map_nil, eq_self, if_true, if_false, reduceIte, Nat.add_eq_left, Nat.left_eq_add, Nat.reduceEqDiff, List.set_cons_zero, List.set_cons_succ, hG] at hO); clear hG; have hF := hO; (try simp only [Own, Item.Holds, apartI, CellsAt, Nat.reduceAdd, Nat.zero_add, List.mem_cons, List.not_mem_nil, or_false, forall_eq_or_imp, forall_eq, ne_eq, false_imp_iff, implies_true, and_true] at hF))
    go_wp2_with (go_at_call 88; apply own_at hO; (repeat (first | (with_reducible exact hO) | (with_reducible apply Own.alloc) | (with_reducible apply Own.drew) | ((with_reducible apply Own.set_at); (focus (show _ ≤ _; omega))))); have hG := hF; clear hF; clear hO; intro hO; refine own_call hO (fun hB => HCM.out _ hB) ?_; clear hO; intro w1 hO; (try simp only [World.size_alloc1, World.size_drew, Nat.reduceAdd] at hO); (try simp only [upd, updI, List.map_cons, List.map_nil, eq_self, if_true, if_false, reduceIte, Nat.add_eq_left, Nat.left_eq_add, Nat.reduceEqDiff, List.set_cons_zero, List.set_cons_succ, hG] at hO); clear hG; have hF := hO; (try simp only [Own, Item.Holds, apartI, CellsAt, Nat.reduceAdd, Nat.zero_add, List.mem_cons, List.not_mem_nil, or_false, forall_eq_or_imp, forall_eq, ne_eq, false_imp_iff, implies_true, and_true] at hF))
    go_ret
    exact ⟨ret_bool (by rw [← HE.out]; rfl), Own.base (by first | exact hO | (repeat (first | (with_reducible exact hO) | (with_reducible apply Own.alloc) | (with_reducible apply Own.drew) | ((with_reducible apply Own.set_at); (focus (show _ ≤ _; omega))))))⟩
end Go.Proofs.YtieoobanpllmgaaDoor
