/- Chapter 10 in the model: the tones of a kind, chords, classes of pitches. -/
import Derived.Test.YtikkcehjfcfcdaaDoorWalksPt
import Derived.Test.YtikkcehjfcfcdaaDoorIntC
import Derived.Test.YtikkcehjfcfcdaaDoorWalks2A
import Derived.Test.YtikkcehjfcfcdaaDoorWalks3K
import Derived.Test.YtikkcehjfcfcdaaDoorPure10
import Derived.Test.YtikkcehjfcfcdaaDoorWalksKey
import Derived.Test.YtikkcehjfcfcdaaDoorWalks2S
import Derived.Test.YtikkcehjfcfcdaaDoorWalks2I
namespace Go.Proofs.YtikkcehjfcfcdaaDoor
set_option linter.unusedSimpArgs false
set_option linter.unusedVariables false
set_option maxRecDepth 8000
open Go.RowKit

theorem infoIv : (Tryd.prog.info? 61).map (fun i => (i.zero, i.size, i.bytes)) = some (some (.agg #[.int .i64 0, .int .i64 0]), 2, 16) := by kernel_rfl
def ivC2 (v : Int × Int) : List Value := [.int .i64 v.1, .int .i64 v.2]
def tnC (l : List (Int × Int)) : List Value := l.flatMap ivC2
theorem tnC_len : ∀ l : List (Int × Int), (tnC l).length = l.length * 2
  | [] => rfl
  | x :: l => by
    have := tnC_len l
    simp only [tnC, List.flatMap_cons, List.length_append, List.length_cons] at this ⊢
    rw [this]
    have hx : (ivC2 x).length = 2 := rfl
    omega
theorem tnC_at : ∀ {v : List (Int × Int)} {k : Nat} {x : Int × Int}, v[k]? = some x → (tnC v)[k * 2]? = some (.int .i64 x.1) ∧ (tnC v)[k * 2 + 1]? = some (.int .i64 x.2)
  | [], k, x, h => by simp at h
  | z :: l, 0, x, h => by
    simp at h
    subst h
    exact ⟨rfl, rfl⟩
  | z :: l, k + 1, x, h => by
    have ih := tnC_at (v := l) (k := k) (x := x) (by simpa using h)
    have hz : (ivC2 z).length = 2 := rfl
    have e : ∀ i, (tnC (z :: l))[(k + 1) * 2 + i]? = (tnC l)[k * 2 + i]? := fun i => by
      show (ivC2 z ++ tnC l)[(k + 1) * 2 + i]? = _
      rw [List.getElem?_append_right (by omega)]
      congr 1; omega
    have e0 := e 0
    simp only [Nat.add_zero] at e0
    rw [e0, e 1]
    exact ih
theorem one2t {x y : Int} : ∀ u ∈ [Value.int .i64 x, .int .i64 y], u.oneCell' = true := by
  intro u hu
  simp at hu
  rcases hu with rfl | rfl <;> rfl

theorem thT {k : Int} (h : 0 ≤ k ∧ k ≤ 8) : [4, 3, 3, 4, 4, 4, 3, 3, 3].getD k.toNat 0 = thZ k := by
  obtain rfl | rfl | rfl | rfl | rfl | rfl | rfl | rfl | rfl : k = 0 ∨ k = 1 ∨ k = 2 ∨ k = 3 ∨ k = 4 ∨ k = 5 ∨ k = 6 ∨ k = 7 ∨ k = 8 := by omega
  all_goals rfl
theorem fiT {k : Int} (h : 0 ≤ k ∧ k ≤ 8) : [7, 7, 6, 8, 7, 7, 7, 6, 6].getD k.toNat 0 = fiZ k := by
  obtain rfl | rfl | rfl | rfl | rfl | rfl | rfl | rfl | rfl : k = 0 ∨ k = 1 ∨ k = 2 ∨ k = 3 ∨ k = 4 ∨ k = 5 ∨ k = 6 ∨ k = 7 ∨ k = 8 := by omega
  all_goals rfl
theorem seT {k : Int} (h : 0 ≤ k ∧ k ≤ 8) : [0, 0, 0, 0, 10, 11, 10, 10, 9].getD k.toNat 0 = seZ k := by
  obtain rfl | rfl | rfl | rfl | rfl | rfl | rfl | rfl | rfl : k = 0 ∨ k = 1 ∨ k = 2 ∨ k = 3 ∨ k = 4 ∨ k = 5 ∨ k = 6 ∨ k = 7 ∨ k = 8 := by omega
  all_goals rfl
theorem seZ_bd (k : Int) : 0 ≤ seZ k := by unfold seZ; (repeat' split) <;> omega
theorem int_atT {n : Nat} {B : World → Prop} {w : World} {b : Nat} {x y : Int} {L : List Item} (us : List Int) (h : Own n B w L) (hm : Item.blk b (us.map (Value.int .i64)) ∈ L) (x0 : 0 ≤ x) (x1 : x < us.length) (e : us.getD x.toNat 0 = y) : w.cell? ⟨b, x.toNat, none⟩ = some (.int .i64 y) := by
  subst e; exact h.int_at us hm x0 x1

set_option maxHeartbeats 4000000 in
theorem tonesS_any (k : Int) (w : World) (h : 0 ≤ k ∧ k ≤ 8) :
    Calls Tryd.prog 41 #[.int .i64 k] w (RowOut 61 2 (toneL k).length (tnC (toneL k)) w) := by
  have hO := Own.start w
  have hF := True.intro
  obtain ⟨i0, hi, hz0, hz1, hz2⟩ := info_parts infoIv
  have h0 : 0 ≤ k := h.1
  have h9 : k < 9 := by omega
  have HT := hid (thT h)
  have HI := hid (fiT h)
  have HS := hid (seT h)
  obtain ⟨t, ht⟩ : ∃ t, thZ k = t := ⟨_, rfl⟩
  obtain ⟨f, hf⟩ : ∃ t, fiZ k = t := ⟨_, rfl⟩
  obtain ⟨e, he⟩ : ∃ t, seZ k = t := ⟨_, rfl⟩
  have e0 := seZ_bd k
  have HE := hid (show toneL k = if e = 0 then [(0, 0), (2, t), (4, f)] else [(0, 0), (2, t), (4, f), (6, e)] by unfold toneL; rw [ht, hf, he])
  rw [ht] at HT
  rw [hf] at HI
  rw [he] at HS e0
  clear h ht hf he
  rcases (show e = 0 ∨ 0 < e by omega) with rfl | he
  · have HE2 := hid (show toneL k = [(0, 0), (2, t), (4, f)] from HE.out.trans (if_pos rfl))
    go_enter Tryd.func41, Tryd.ntmps41
    go_wp2_with fail
    apply own_code hO
    (repeat (first | (with_reducible exact hO) | (with_reducible apply Own.alloc) | (with_reducible apply Own.drew) | ((with_reducible apply Own.set_at); (focus (show _ ≤ _; omega)))))
    have hG := hF; clear hF; clear hO; intro hO
    (try simp only [World.size_alloc1, World.size_drew, Nat.reduceAdd] at hO); (try simp only [upd, updI, List.map_cons, List.map_nil, eq_self, if_true, if_false, reduceIte, Nat.add_eq_left, Nat.left_eq_add, Nat.reduceEqDiff, List.set_cons_zero, List.set_cons_succ, hG] at hO); clear hG
    refine region_own (X := fun _ => True) [11] (by kernel_rfl) (hO) (trivial) (by first | exact XStab.true | exact XStab.rd | exact XStab.rdIf) ?_
    clear hO
    refine Sim.takeP (i := 0) (d := some 10) (v := ?_) rfl rfl (by kernel_rfl) (by kernel_rfl) (by kernel_rfl) (fun _ _ _ h => h) (by first | exact XStab.true | exact XStab.rd | exact XStab.rdIf) ?_ ?_
    rotate_left
    · first | refine Or.inl ⟨by rfl, fun w => ?_⟩ | (refine Or.inr ⟨by rfl, ?_⟩; with_reducible rfl)
      first | done | (go_simp; all_goals with_reducible rfl)
    try simp only [Act.put, List.setIfInBounds_toArray, List.set_cons_zero, List.set_cons_succ]
    refine Sim.takeP (i := 1) (d := some 11) (v := ?_) rfl rfl (by kernel_rfl) (by kernel_rfl) (by kernel_rfl) (fun _ _ _ h => h) (by first | exact XStab.true | exact XStab.rd | exact XStab.rdIf) ?_ ?_
    rotate_left
    · first | refine Or.inl ⟨by rfl, fun w => ?_⟩ | (refine Or.inr ⟨by rfl, ?_⟩; with_reducible rfl)
      first | done | (go_simp; all_goals with_reducible rfl)
    try simp only [Act.put, List.setIfInBounds_toArray, List.set_cons_zero, List.set_cons_succ]
    refine Sim.takeP (i := 2) (d := some 12) (v := ?_) rfl rfl (by kernel_rfl) (by kernel_rfl) (by kernel_rfl) (fun _ _ _ h => h) (by first | exact XStab.true | exact XStab.rd | exact XStab.rdIf) ?_ ?_
    rotate_left
    · first | refine Or.inl ⟨by rfl, fun w => ?_⟩ | (refine Or.inr ⟨by rfl, ?_⟩; with_reducible rfl)
      first | done | (go_simp; all_goals with_reducible rfl)
    try simp only [Act.put, List.setIfInBounds_toArray, List.set_cons_zero, List.set_cons_succ]
    refine Sim.takeP (i := 3) (d := some 13) (v := ?_) rfl rfl (by kernel_rfl) (by kernel_rfl) (by kernel_rfl) (fun _ _ _ h => h) (by first | exact XStab.true | exact XStab.rd | exact XStab.rdIf) ?_ ?_
    rotate_left
    · first | refine Or.inl ⟨by rfl, fun w => ?_⟩ | (refine Or.inr ⟨by rfl, ?_⟩; with_reducible rfl)
      first | done | (go_simp; all_goals with_reducible rfl)
    try simp only [Act.put, List.setIfInBounds_toArray, List.set_cons_zero, List.set_cons_succ]
    refine Sim.takeP (i := 6) (d := some 16) (v := ?_) rfl rfl (by kernel_rfl) (by kernel_rfl) (by kernel_rfl) (fun _ _ _ h => h) (by first | exact XStab.true | exact XStab.rd | exact XStab.rdIf) ?_ ?_
    rotate_left
    · first | refine Or.inl ⟨by rfl, fun w => ?_⟩ | (refine Or.inr ⟨by rfl, ?_⟩; with_reducible rfl)
      first | done | (go_simp; all_goals with_reducible rfl)
    try simp only [Act.put, List.setIfInBounds_toArray, List.set_cons_zero, List.set_cons_succ]
    refine Sim.takeP (i := 7) (d := some 17) (v := ?_) rfl rfl (by kernel_rfl) (by kernel_rfl) (by kernel_rfl) (fun _ _ _ h => h) (by first | exact XStab.true | exact XStab.rd | exact XStab.rdIf) ?_ ?_
    rotate_left
    · first | refine Or.inl ⟨by rfl, fun w => ?_⟩ | (refine Or.inr ⟨by rfl, ?_⟩; with_reducible rfl)
      first | done | (go_simp; all_goals with_reducible rfl)
    try simp only [Act.put, List.setIfInBounds_toArray, List.set_cons_zero, List.set_cons_succ]
    refine Sim.takeP (i := 8) (d := some 18) (v := ?_) rfl rfl (by kernel_rfl) (by kernel_rfl) (by kernel_rfl) (fun _ _ _ h => h) (by first | exact XStab.true | exact XStab.rd | exact XStab.rdIf) ?_ ?_
    rotate_left
    · first | refine Or.inl ⟨by rfl, fun w => ?_⟩ | (refine Or.inr ⟨by rfl, ?_⟩; with_reducible rfl)
      first | done | (go_simp; all_goals with_reducible rfl)
    try simp only [Act.put, List.setIfInBounds_toArray, List.set_cons_zero, List.set_cons_succ]
    refine Sim.many (rs := [4, 9]) (by kernel_rfl) (by decide) ?_
    refine AllS.cons (oi := { dst := some 14, op := Op.load 3 (Operand.tmp 13), type := 3, pos := "l10_chords.go:10", after := #[{ on := 3, ground := Ground.data }], guard := none }) rfl (by rfl) (fun w0 hO hX K hK => ?_) ?_
    rotate_left
    refine AllS.cons (oi := { dst := some 19, op := Op.load 3 (Operand.tmp 18), type := 3, pos := "l10_chords.go:10", after := #[{ on := 8, ground := Ground.data }], guard := none }) rfl (by rfl) (fun w0 hO hX K hK => ?_) ?_
    rotate_left
    exact AllS.nil
    rotate_right 2
    have hF := hO; (try simp only [Own, Item.Holds, apartI, CellsAt, Nat.reduceAdd, Nat.zero_add, List.mem_cons, List.not_mem_nil, or_false, forall_eq_or_imp, forall_eq, ne_eq, false_imp_iff, implies_true, and_true] at hF); ((have d0 := int_atT (b := w.heap.size) [4, 3, 3, 4, 4, 4, 3, 3, 3] hO (List.mem_cons_of_mem _ (List.mem_cons_of_mem _ List.mem_cons_self)) h0 h9 HT.out; have d1 := int_atT (b := w.heap.size + 1) [7, 7, 6, 8, 7, 7, 7, 6, 6] hO (List.mem_cons_of_mem _ List.mem_cons_self) h0 h9 HI.out))
    go_simp
    apply hK _ _ _ (fun _ => True)
    (repeat (first | (with_reducible exact hO) | (with_reducible apply Own.alloc) | (with_reducible apply Own.drew) | ((with_reducible apply Own.set_at); (focus (show _ ≤ _; omega)))))
    · first | exact trivial | exact hX | exact hX.below (below1 _) | exact RdIf.gone | exact hX.keep ((Below.refl _ _).setCell (by first | omega | (dsimp only; omega)) _)
    · exact (by first | exact XStab.true | exact XStab.rd | exact XStab.rdIf)
    · first | exact fun _ _ h => h.2 | exact fun _ _ h => h | exact fun h => absurd h (by decide)
    try simp only [upd, updI, List.map_cons, List.map_nil, eq_self, if_true, if_false, reduceIte, Nat.add_eq_left, Nat.left_eq_add, Nat.reduceEqDiff, List.set_cons_zero, List.set_cons_succ, hF]
    clear hK K hF hO
    try simp only [Act.put, List.setIfInBounds_toArray, List.set_cons_zero, List.set_cons_succ]
    refine Sim.takeP (i := 5) (d := some 15) (v := ?_) rfl rfl (by kernel_rfl) (by kernel_rfl) (by kernel_rfl) (fun _ _ _ h => h) (by first | exact XStab.true | exact XStab.rd | exact XStab.rdIf) ?_ ?_
    rotate_left
    · first | refine Or.inl ⟨by rfl, fun w => ?_⟩ | (refine Or.inr ⟨by rfl, ?_⟩; with_reducible rfl)
      first | done | (go_simp; all_goals with_reducible rfl)
    try simp only [Act.put, List.setIfInBounds_toArray, List.set_cons_zero, List.set_cons_succ]
    refine Sim.one' (i := 9) (oi := { dst := some 19, op := Op.load 3 (Operand.tmp 18), type := 3, pos := "l10_chords.go:10", after := #[{ on := 8, ground := Ground.data }], guard := none }) (by kernel_rfl) rfl (by rfl) (fun w0 hO hX K hK => ?_)
    have hF := hO; (try simp only [Own, Item.Holds, apartI, CellsAt, Nat.reduceAdd, Nat.zero_add, List.mem_cons, List.not_mem_nil, or_false, forall_eq_or_imp, forall_eq, ne_eq, false_imp_iff, implies_true, and_true] at hF); ((have d0 := int_atT (b := w.heap.size) [4, 3, 3, 4, 4, 4, 3, 3, 3] hO (List.mem_cons_of_mem _ (List.mem_cons_of_mem _ List.mem_cons_self)) h0 h9 HT.out; have d1 := int_atT (b := w.heap.size + 1) [7, 7, 6, 8, 7, 7, 7, 6, 6] hO (List.mem_cons_of_mem _ List.mem_cons_self) h0 h9 HI.out))
    go_simp
    apply hK _ _ _ (fun _ => True)
    (repeat (first | (with_reducible exact hO) | (with_reducible apply Own.alloc) | (with_reducible apply Own.drew) | ((with_reducible apply Own.set_at); (focus (show _ ≤ _; omega)))))
    · first | exact trivial | exact hX | exact hX.below (below1 _) | exact RdIf.gone | exact hX.keep ((Below.refl _ _).setCell (by first | omega | (dsimp only; omega)) _)
    · exact (by first | exact XStab.true | exact XStab.rd | exact XStab.rdIf)
    · first | exact fun _ _ h => h.2 | exact fun _ _ h => h | exact fun h => absurd h (by decide)
    try simp only [upd, updI, List.map_cons, List.map_nil, eq_self, if_true, if_false, reduceIte, Nat.add_eq_left, Nat.left_eq_add, Nat.reduceEqDiff, List.set_cons_zero, List.set_cons_succ, hF]
    clear hK K hF hO
    try simp only [Act.put, List.setIfInBounds_toArray, List.set_cons_zero, List.set_cons_succ]
    refine Sim.takeP (i := 10) (d := some 20) (v := ?_) rfl rfl (by kernel_rfl) (by kernel_rfl) (by kernel_rfl) (fun _ _ _ h => h) (by first | exact XStab.true | exact XStab.rd | exact XStab.rdIf) ?_ ?_
    rotate_left
    · first | refine Or.inl ⟨by rfl, fun w => ?_⟩ | (refine Or.inr ⟨by rfl, ?_⟩; with_reducible rfl)
      first | done | (go_simp; all_goals with_reducible rfl)
    try simp only [Act.put, List.setIfInBounds_toArray, List.set_cons_zero, List.set_cons_succ]
    refine Sim.one' (i := 11) (oi := { dst := some 21, op := Op.buildSlice 70 3 #[(0, Operand.tmp 10), (1, Operand.tmp 15), (2, Operand.tmp 20)], type := 70, pos := "l10_chords.go:10", after := #[{ on := 0, ground := Ground.data }, { on := 5, ground := Ground.data }, { on := 10, ground := Ground.data }], guard := none }) (by kernel_rfl) rfl (by rfl) (fun w0 hO hX K hK => ?_)
    (have hF := hO; (try simp only [Own, Item.Holds, apartI, CellsAt, Nat.reduceAdd, Nat.zero_add, List.mem_cons, List.not_mem_nil, or_false, forall_eq_or_imp, forall_eq, ne_eq, false_imp_iff, implies_true, and_true] at hF))
    go_simp
    apply hK _ _ _ (fun _ => True)
    · exact hO.allocRow (k := 3) (cap := 3) 2 (by omega) (by unfold maxLen; omega) rfl
    · exact trivial
    · exact XStab.true
    · first | exact fun _ _ h => h.2 | exact fun h => absurd h (by decide)
    clear hO hF
    clear hK K
    try simp only [Act.put, List.setIfInBounds_toArray, List.set_cons_zero, List.set_cons_succ]
    refine Sim.takeP (i := 12) (d := some 6) (v := ?_) rfl rfl (by kernel_rfl) (by kernel_rfl) (by kernel_rfl) (fun _ _ _ h => h) (by first | exact XStab.true | exact XStab.rd | exact XStab.rdIf) ?_ ?_
    rotate_left
    · first | refine Or.inl ⟨by rfl, fun w => ?_⟩ | (refine Or.inr ⟨by rfl, ?_⟩; with_reducible rfl)
      first | done | (go_simp; all_goals with_reducible rfl)
    try simp only [Act.put, List.setIfInBounds_toArray, List.set_cons_zero, List.set_cons_succ]
    refine Sim.done (by kernel_rfl) (fun w1 hO hX => ?_) _
    (try simp only [World.size_alloc1, World.size_drew, Nat.reduceAdd] at hO); (try simp only [upd, updI, List.map_cons, List.map_nil, eq_self, if_true, if_false, reduceIte, Nat.add_eq_left, Nat.left_eq_add, Nat.reduceEqDiff, List.set_cons_zero, List.set_cons_succ] at hO)
    have hF := hO; (try simp only [Own, Item.Holds, apartI, CellsAt, Nat.reduceAdd, Nat.zero_add, List.mem_cons, List.not_mem_nil, or_false, forall_eq_or_imp, forall_eq, ne_eq, false_imp_iff, implies_true, and_true] at hF)
    rotate_left 1
    have hF := hO; (try simp only [Own, Item.Holds, apartI, CellsAt, Nat.reduceAdd, Nat.zero_add, List.mem_cons, List.not_mem_nil, or_false, forall_eq_or_imp, forall_eq, ne_eq, false_imp_iff, implies_true, and_true] at hF); ((have d0 := int_atT (b := w.heap.size) [4, 3, 3, 4, 4, 4, 3, 3, 3] hO (List.mem_cons_of_mem _ (List.mem_cons_of_mem _ List.mem_cons_self)) h0 h9 HT.out; have d1 := int_atT (b := w.heap.size + 1) [7, 7, 6, 8, 7, 7, 7, 6, 6] hO (List.mem_cons_of_mem _ List.mem_cons_self) h0 h9 HI.out))
    go_simp
    apply hK _ _ _ (fun _ => True)
    (repeat (first | (with_reducible exact hO) | (with_reducible apply Own.alloc) | (with_reducible apply Own.drew) | ((with_reducible apply Own.set_at); (focus (show _ ≤ _; omega)))))
    · first | exact trivial | exact hX | exact hX.below (below1 _) | exact RdIf.gone | exact hX.keep ((Below.refl _ _).setCell (by first | omega | (dsimp only; omega)) _)
    · exact (by first | exact XStab.true | exact XStab.rd | exact XStab.rdIf)
    · first | exact fun _ _ h => h.2 | exact fun _ _ h => h | exact fun h => absurd h (by decide)
    try simp only [upd, updI, List.map_cons, List.map_nil, eq_self, if_true, if_false, reduceIte, Nat.add_eq_left, Nat.left_eq_add, Nat.reduceEqDiff, List.set_cons_zero, List.set_cons_succ, hF]
    clear hK K hF hO
    try simp only [Act.put, List.setIfInBounds_toArray, List.set_cons_zero, List.set_cons_succ]
    refine Sim.takeP (i := 10) (d := some 20) (v := ?_) rfl rfl (by kernel_rfl) (by kernel_rfl) (by kernel_rfl) (fun _ _ _ h => h) (by first | exact XStab.true | exact XStab.rd | exact XStab.rdIf) ?_ ?_
    rotate_left
    · first | refine Or.inl ⟨by rfl, fun w => ?_⟩ | (refine Or.inr ⟨by rfl, ?_⟩; with_reducible rfl)
      first | done | (go_simp; all_goals with_reducible rfl)
    try simp only [Act.put, List.setIfInBounds_toArray, List.set_cons_zero, List.set_cons_succ]
    refine Sim.one' (i := 4) (oi := { dst := some 14, op := Op.load 3 (Operand.tmp 13), type := 3, pos := "l10_chords.go:10", after := #[{ on := 3, ground := Ground.data }], guard := none }) (by kernel_rfl) rfl (by rfl) (fun w0 hO hX K hK => ?_)
    have hF := hO; (try simp only [Own, Item.Holds, apartI, CellsAt, Nat.reduceAdd, Nat.zero_add, List.mem_cons, List.not_mem_nil, or_false, forall_eq_or_imp, forall_eq, ne_eq, false_imp_iff, implies_true, and_true] at hF); ((have d0 := int_atT (b := w.heap.size) [4, 3, 3, 4, 4, 4, 3, 3, 3] hO (List.mem_cons_of_mem _ (List.mem_cons_of_mem _ List.mem_cons_self)) h0 h9 HT.out; have d1 := int_atT (b := w.heap.size + 1) [7, 7, 6, 8, 7, 7, 7, 6, 6] hO (List.mem_cons_of_mem _ List.mem_cons_self) h0 h9 HI.out))
    go_simp
    apply hK _ _ _ (fun _ => True)
    (repeat (first | (with_reducible exact hO) | (with_reducible apply Own.alloc) | (with_reducible apply Own.drew) | ((with_reducible apply Own.set_at); (focus (show _ ≤ _; omega)))))
    · first | exact trivial | exact hX | exact hX.below (below1 _) | exact RdIf.gone | exact hX.keep ((Below.refl _ _).setCell (by first | omega | (dsimp only; omega)) _)
    · exact (by first | exact XStab.true | exact XStab.rd | exact XStab.rdIf)
    · first | exact fun _ _ h => h.2 | exact fun _ _ h => h | exact fun h => absurd h (by decide)
    try simp only [upd, updI, List.map_cons, List.map_nil, eq_self, if_true, if_false, reduceIte, Nat.add_eq_left, Nat.left_eq_add, Nat.reduceEqDiff, List.set_cons_zero, List.set_cons_succ, hF]
    clear hK K hF hO
    try simp only [Act.put, List.setIfInBounds_toArray, List.set_cons_zero, List.set_cons_succ]
    refine Sim.takeP (i := 5) (d := some 15) (v := ?_) rfl rfl (by kernel_rfl) (by kernel_rfl) (by kernel_rfl) (fun _ _ _ h => h) (by first | exact XStab.true | exact XStab.rd | exact XStab.rdIf) ?_ ?_
    rotate_left
    · first | refine Or.inl ⟨by rfl, fun w => ?_⟩ | (refine Or.inr ⟨by rfl, ?_⟩; with_reducible rfl)
      first | done | (go_simp; all_goals with_reducible rfl)
    try simp only [Act.put, List.setIfInBounds_toArray, List.set_cons_zero, List.set_cons_succ]
    refine Sim.one' (i := 11) (oi := { dst := some 21, op := Op.buildSlice 70 3 #[(0, Operand.tmp 10), (1, Operand.tmp 15), (2, Operand.tmp 20)], type := 70, pos := "l10_chords.go:10", after := #[{ on := 0, ground := Ground.data }, { on := 5, ground := Ground.data }, { on := 10, ground := Ground.data }], guard := none }) (by kernel_rfl) rfl (by rfl) (fun w0 hO hX K hK => ?_)
    (have hF := hO; (try simp only [Own, Item.Holds, apartI, CellsAt, Nat.reduceAdd, Nat.zero_add, List.mem_cons, List.not_mem_nil, or_false, forall_eq_or_imp, forall_eq, ne_eq, false_imp_iff, implies_true, and_true] at hF))
    go_simp
    apply hK _ _ _ (fun _ => True)
    · exact hO.allocRow (k := 3) (cap := 3) 2 (by omega) (by unfold maxLen; omega) rfl
    · exact trivial
    · exact XStab.true
    · first | exact fun _ _ h => h.2 | exact fun h => absurd h (by decide)
    clear hO hF
    clear hK K
    try simp only [Act.put, List.setIfInBounds_toArray, List.set_cons_zero, List.set_cons_succ]
    refine Sim.takeP (i := 12) (d := some 6) (v := ?_) rfl rfl (by kernel_rfl) (by kernel_rfl) (by kernel_rfl) (fun _ _ _ h => h) (by first | exact XStab.true | exact XStab.rd | exact XStab.rdIf) ?_ ?_
    rotate_left
    · first | refine Or.inl ⟨by rfl, fun w => ?_⟩ | (refine Or.inr ⟨by rfl, ?_⟩; with_reducible rfl)
      first | done | (go_simp; all_goals with_reducible rfl)
    try simp only [Act.put, List.setIfInBounds_toArray, List.set_cons_zero, List.set_cons_succ]
    refine Sim.done (by kernel_rfl) (fun w1 hO hX => ?_) _
    (try simp only [World.size_alloc1, World.size_drew, Nat.reduceAdd] at hO); (try simp only [upd, updI, List.map_cons, List.map_nil, eq_self, if_true, if_false, reduceIte, Nat.add_eq_left, Nat.left_eq_add, Nat.reduceEqDiff, List.set_cons_zero, List.set_cons_succ] at hO)
    have hF := hO; (try simp only [Own, Item.Holds, apartI, CellsAt, Nat.reduceAdd, Nat.zero_add, List.mem_cons, List.not_mem_nil, or_false, forall_eq_or_imp, forall_eq, ne_eq, false_imp_iff, implies_true, and_true] at hF)
    rotate_left 1
    all_goals
      have d2 := int_atT (b := w.heap.size + 1 + 1) [0, 0, 0, 0, 10, 11, 10, 10, 9] hO (List.mem_cons_of_mem _ List.mem_cons_self) h0 h9 HS.out
      go_wp2
      go_ret
      rw [HE2.out]
      exact RowOut.mk hO
  · have HE2 := hid (show toneL k = [(0, 0), (2, t), (4, f), (6, e)] from HE.out.trans (if_neg (by omega)))
    go_enter Tryd.func41, Tryd.ntmps41
    go_wp2_with fail
    apply own_code hO
    (repeat (first | (with_reducible exact hO) | (with_reducible apply Own.alloc) | (with_reducible apply Own.drew) | ((with_reducible apply Own.set_at); (focus (show _ ≤ _; omega)))))
    have hG := hF; clear hF; clear hO; intro hO
    (try simp only [World.size_alloc1, World.size_drew, Nat.reduceAdd] at hO); (try simp only [upd, updI, List.map_cons, List.map_nil, eq_self, if_true, if_false, reduceIte, Nat.add_eq_left, Nat.left_eq_add, Nat.reduceEqDiff, List.set_cons_zero, List.set_cons_succ, hG] at hO); clear hG
    refine region_own (X := fun _ => True) [11] (by kernel_rfl) (hO) (trivial) (by first | exact XStab.true | exact XStab.rd | exact XStab.rdIf) ?_
    clear hO
    refine Sim.takeP (i := 0) (d := some 10) (v := ?_) rfl rfl (by kernel_rfl) (by kernel_rfl) (by kernel_rfl) (fun _ _ _ h => h) (by first | exact XStab.true | exact XStab.rd | exact XStab.rdIf) ?_ ?_
    rotate_left
    · first | refine Or.inl ⟨by rfl, fun w => ?_⟩ | (refine Or.inr ⟨by rfl, ?_⟩; with_reducible rfl)
      first | done | (go_simp; all_goals with_reducible rfl)
    try simp only [Act.put, List.setIfInBounds_toArray, List.set_cons_zero, List.set_cons_succ]
    refine Sim.takeP (i := 1) (d := some 11) (v := ?_) rfl rfl (by kernel_rfl) (by kernel_rfl) (by kernel_rfl) (fun _ _ _ h => h) (by first | exact XStab.true | exact XStab.rd | exact XStab.rdIf) ?_ ?_
    rotate_left
    · first | refine Or.inl ⟨by rfl, fun w => ?_⟩ | (refine Or.inr ⟨by rfl, ?_⟩; with_reducible rfl)
      first | done | (go_simp; all_goals with_reducible rfl)
    try simp only [Act.put, List.setIfInBounds_toArray, List.set_cons_zero, List.set_cons_succ]
    refine Sim.takeP (i := 2) (d := some 12) (v := ?_) rfl rfl (by kernel_rfl) (by kernel_rfl) (by kernel_rfl) (fun _ _ _ h => h) (by first | exact XStab.true | exact XStab.rd | exact XStab.rdIf) ?_ ?_
    rotate_left
    · first | refine Or.inl ⟨by rfl, fun w => ?_⟩ | (refine Or.inr ⟨by rfl, ?_⟩; with_reducible rfl)
      first | done | (go_simp; all_goals with_reducible rfl)
    try simp only [Act.put, List.setIfInBounds_toArray, List.set_cons_zero, List.set_cons_succ]
    refine Sim.takeP (i := 3) (d := some 13) (v := ?_) rfl rfl (by kernel_rfl) (by kernel_rfl) (by kernel_rfl) (fun _ _ _ h => h) (by first | exact XStab.true | exact XStab.rd | exact XStab.rdIf) ?_ ?_
    rotate_left
    · first | refine Or.inl ⟨by rfl, fun w => ?_⟩ | (refine Or.inr ⟨by rfl, ?_⟩; with_reducible rfl)
      first | done | (go_simp; all_goals with_reducible rfl)
    try simp only [Act.put, List.setIfInBounds_toArray, List.set_cons_zero, List.set_cons_succ]
    refine Sim.takeP (i := 6) (d := some 16) (v := ?_) rfl rfl (by kernel_rfl) (by kernel_rfl) (by kernel_rfl) (fun _ _ _ h => h) (by first | exact XStab.true | exact XStab.rd | exact XStab.rdIf) ?_ ?_
    rotate_left
    · first | refine Or.inl ⟨by rfl, fun w => ?_⟩ | (refine Or.inr ⟨by rfl, ?_⟩; with_reducible rfl)
      first | done | (go_simp; all_goals with_reducible rfl)
    try simp only [Act.put, List.setIfInBounds_toArray, List.set_cons_zero, List.set_cons_succ]
    refine Sim.takeP (i := 7) (d := some 17) (v := ?_) rfl rfl (by kernel_rfl) (by kernel_rfl) (by kernel_rfl) (fun _ _ _ h => h) (by first | exact XStab.true | exact XStab.rd | exact XStab.rdIf) ?_ ?_
    rotate_left
    · first | refine Or.inl ⟨by rfl, fun w => ?_⟩ | (refine Or.inr ⟨by rfl, ?_⟩; with_reducible rfl)
      first | done | (go_simp; all_goals with_reducible rfl)
    try simp only [Act.put, List.setIfInBounds_toArray, List.set_cons_zero, List.set_cons_succ]
    refine Sim.takeP (i := 8) (d := some 18) (v := ?_) rfl rfl (by kernel_rfl) (by kernel_rfl) (by kernel_rfl) (fun _ _ _ h => h) (by first | exact XStab.true | exact XStab.rd | exact XStab.rdIf) ?_ ?_
    rotate_left
    · first | refine Or.inl ⟨by rfl, fun w => ?_⟩ | (refine Or.inr ⟨by rfl, ?_⟩; with_reducible rfl)
      first | done | (go_simp; all_goals with_reducible rfl)
    try simp only [Act.put, List.setIfInBounds_toArray, List.set_cons_zero, List.set_cons_succ]
    refine Sim.many (rs := [4, 9]) (by kernel_rfl) (by decide) ?_
    refine AllS.cons (oi := { dst := some 14, op := Op.load 3 (Operand.tmp 13), type := 3, pos := "l10_chords.go:10", after := #[{ on := 3, ground := Ground.data }], guard := none }) rfl (by rfl) (fun w0 hO hX K hK => ?_) ?_
    rotate_left
    refine AllS.cons (oi := { dst := some 19, op := Op.load 3 (Operand.tmp 18), type := 3, pos := "l10_chords.go:10", after := #[{ on := 8, ground := Ground.data }], guard := none }) rfl (by rfl) (fun w0 hO hX K hK => ?_) ?_
    rotate_left
    exact AllS.nil
    rotate_right 2
    have hF := hO; (try simp only [Own, Item.Holds, apartI, CellsAt, Nat.reduceAdd, Nat.zero_add, List.mem_cons, List.not_mem_nil, or_false, forall_eq_or_imp, forall_eq, ne_eq, false_imp_iff, implies_true, and_true] at hF); ((have d0 := int_atT (b := w.heap.size) [4, 3, 3, 4, 4, 4, 3, 3, 3] hO (List.mem_cons_of_mem _ (List.mem_cons_of_mem _ List.mem_cons_self)) h0 h9 HT.out; have d1 := int_atT (b := w.heap.size + 1) [7, 7, 6, 8, 7, 7, 7, 6, 6] hO (List.mem_cons_of_mem _ List.mem_cons_self) h0 h9 HI.out))
    go_simp
    apply hK _ _ _ (fun _ => True)
    (repeat (first | (with_reducible exact hO) | (with_reducible apply Own.alloc) | (with_reducible apply Own.drew) | ((with_reducible apply Own.set_at); (focus (show _ ≤ _; omega)))))
    · first | exact trivial | exact hX | exact hX.below (below1 _) | exact RdIf.gone | exact hX.keep ((Below.refl _ _).setCell (by first | omega | (dsimp only; omega)) _)
    · exact (by first | exact XStab.true | exact XStab.rd | exact XStab.rdIf)
    · first | exact fun _ _ h => h.2 | exact fun _ _ h => h | exact fun h => absurd h (by decide)
    try simp only [upd, updI, List.map_cons, List.map_nil, eq_self, if_true, if_false, reduceIte, Nat.add_eq_left, Nat.left_eq_add, Nat.reduceEqDiff, List.set_cons_zero, List.set_cons_succ, hF]
    clear hK K hF hO
    try simp only [Act.put, List.setIfInBounds_toArray, List.set_cons_zero, List.set_cons_succ]
    refine Sim.takeP (i := 5) (d := some 15) (v := ?_) rfl rfl (by kernel_rfl) (by kernel_rfl) (by kernel_rfl) (fun _ _ _ h => h) (by first | exact XStab.true | exact XStab.rd | exact XStab.rdIf) ?_ ?_
    rotate_left
    · first | refine Or.inl ⟨by rfl, fun w => ?_⟩ | (refine Or.inr ⟨by rfl, ?_⟩; with_reducible rfl)
      first | done | (go_simp; all_goals with_reducible rfl)
    try simp only [Act.put, List.setIfInBounds_toArray, List.set_cons_zero, List.set_cons_succ]
    refine Sim.one' (i := 9) (oi := { dst := some 19, op := Op.load 3 (Operand.tmp 18), type := 3, pos := "l10_chords.go:10", after := #[{ on := 8, ground := Ground.data }], guard := none }) (by kernel_rfl) rfl (by rfl) (fun w0 hO hX K hK => ?_)
    have hF := hO; (try simp only [Own, Item.Holds, apartI, CellsAt, Nat.reduceAdd, Nat.zero_add, List.mem_cons, List.not_mem_nil, or_false, forall_eq_or_imp, forall_eq, ne_eq, false_imp_iff, implies_true, and_true] at hF); ((have d0 := int_atT (b := w.heap.size) [4, 3, 3, 4, 4, 4, 3, 3, 3] hO (List.mem_cons_of_mem _ (List.mem_cons_of_mem _ List.mem_cons_self)) h0 h9 HT.out; have d1 := int_atT (b := w.heap.size + 1) [7, 7, 6, 8, 7, 7, 7, 6, 6] hO (List.mem_cons_of_mem _ List.mem_cons_self) h0 h9 HI.out))
    go_simp
    apply hK _ _ _ (fun _ => True)
    (repeat (first | (with_reducible exact hO) | (with_reducible apply Own.alloc) | (with_reducible apply Own.drew) | ((with_reducible apply Own.set_at); (focus (show _ ≤ _; omega)))))
    · first | exact trivial | exact hX | exact hX.below (below1 _) | exact RdIf.gone | exact hX.keep ((Below.refl _ _).setCell (by first | omega | (dsimp only; omega)) _)
    · exact (by first | exact XStab.true | exact XStab.rd | exact XStab.rdIf)
    · first | exact fun _ _ h => h.2 | exact fun _ _ h => h | exact fun h => absurd h (by decide)
    try simp only [upd, updI, List.map_cons, List.map_nil, eq_self, if_true, if_false, reduceIte, Nat.add_eq_left, Nat.left_eq_add, Nat.reduceEqDiff, List.set_cons_zero, List.set_cons_succ, hF]
    clear hK K hF hO
    try simp only [Act.put, List.setIfInBounds_toArray, List.set_cons_zero, List.set_cons_succ]
    refine Sim.takeP (i := 10) (d := some 20) (v := ?_) rfl rfl (by kernel_rfl) (by kernel_rfl) (by kernel_rfl) (fun _ _ _ h => h) (by first | exact XStab.true | exact XStab.rd | exact XStab.rdIf) ?_ ?_
    rotate_left
    · first | refine Or.inl ⟨by rfl, fun w => ?_⟩ | (refine Or.inr ⟨by rfl, ?_⟩; with_reducible rfl)
      first | done | (go_simp; all_goals with_reducible rfl)
    try simp only [Act.put, List.setIfInBounds_toArray, List.set_cons_zero, List.set_cons_succ]
    refine Sim.one' (i := 11) (oi := { dst := some 21, op := Op.buildSlice 70 3 #[(0, Operand.tmp 10), (1, Operand.tmp 15), (2, Operand.tmp 20)], type := 70, pos := "l10_chords.go:10", after := #[{ on := 0, ground := Ground.data }, { on := 5, ground := Ground.data }, { on := 10, ground := Ground.data }], guard := none }) (by kernel_rfl) rfl (by rfl) (fun w0 hO hX K hK => ?_)
    (have hF := hO; (try simp only [Own, Item.Holds, apartI, CellsAt, Nat.reduceAdd, Nat.zero_add, List.mem_cons, List.not_mem_nil, or_false, forall_eq_or_imp, forall_eq, ne_eq, false_imp_iff, implies_true, and_true] at hF))
    go_simp
    apply hK _ _ _ (fun _ => True)
    · exact hO.allocRow (k := 3) (cap := 3) 2 (by omega) (by unfold maxLen; omega) rfl
    · exact trivial
    · exact XStab.true
    · first | exact fun _ _ h => h.2 | exact fun h => absurd h (by decide)
    clear hO hF
    clear hK K
    try simp only [Act.put, List.setIfInBounds_toArray, List.set_cons_zero, List.set_cons_succ]
    refine Sim.takeP (i := 12) (d := some 6) (v := ?_) rfl rfl (by kernel_rfl) (by kernel_rfl) (by kernel_rfl) (fun _ _ _ h => h) (by first | exact XStab.true | exact XStab.rd | exact XStab.rdIf) ?_ ?_
    rotate_left
    · first | refine Or.inl ⟨by rfl, fun w => ?_⟩ | (refine Or.inr ⟨by rfl, ?_⟩; with_reducible rfl)
      first | done | (go_simp; all_goals with_reducible rfl)
    try simp only [Act.put, List.setIfInBounds_toArray, List.set_cons_zero, List.set_cons_succ]
    refine Sim.done (by kernel_rfl) (fun w1 hO hX => ?_) _
    (try simp only [World.size_alloc1, World.size_drew, Nat.reduceAdd] at hO); (try simp only [upd, updI, List.map_cons, List.map_nil, eq_self, if_true, if_false, reduceIte, Nat.add_eq_left, Nat.left_eq_add, Nat.reduceEqDiff, List.set_cons_zero, List.set_cons_succ] at hO)
    have hF := hO; (try simp only [Own, Item.Holds, apartI, CellsAt, Nat.reduceAdd, Nat.zero_add, List.mem_cons, List.not_mem_nil, or_false, forall_eq_or_imp, forall_eq, ne_eq, false_imp_iff, implies_true, and_true] at hF)
    rotate_left 1
    have hF := hO; (try simp only [Own, Item.Holds, apartI, CellsAt, Nat.reduceAdd, Nat.zero_add, List.mem_cons, List.not_mem_nil, or_false, forall_eq_or_imp, forall_eq, ne_eq, false_imp_iff, implies_true, and_true] at hF); ((have d0 := int_atT (b := w.heap.size) [4, 3, 3, 4, 4, 4, 3, 3, 3] hO (List.mem_cons_of_mem _ (List.mem_cons_of_mem _ List.mem_cons_self)) h0 h9 HT.out; have d1 := int_atT (b := w.heap.size + 1) [7, 7, 6, 8, 7, 7, 7, 6, 6] hO (List.mem_cons_of_mem _ List.mem_cons_self) h0 h9 HI.out))
    go_simp
    apply hK _ _ _ (fun _ => True)
    (repeat (first | (with_reducible exact hO) | (with_reducible apply Own.alloc) | (with_reducible apply Own.drew) | ((with_reducible apply Own.set_at); (focus (show _ ≤ _; omega)))))
    · first | exact trivial | exact hX | exact hX.below (below1 _) | exact RdIf.gone | exact hX.keep ((Below.refl _ _).setCell (by first | omega | (dsimp only; omega)) _)
    · exact (by first | exact XStab.true | exact XStab.rd | exact XStab.rdIf)
    · first | exact fun _ _ h => h.2 | exact fun _ _ h => h | exact fun h => absurd h (by decide)
    try simp only [upd, updI, List.map_cons, List.map_nil, eq_self, if_true, if_false, reduceIte, Nat.add_eq_left, Nat.left_eq_add, Nat.reduceEqDiff, List.set_cons_zero, List.set_cons_succ, hF]
    clear hK K hF hO
    try simp only [Act.put, List.setIfInBounds_toArray, List.set_cons_zero, List.set_cons_succ]
    refine Sim.takeP (i := 10) (d := some 20) (v := ?_) rfl rfl (by kernel_rfl) (by kernel_rfl) (by kernel_rfl) (fun _ _ _ h => h) (by first | exact XStab.true | exact XStab.rd | exact XStab.rdIf) ?_ ?_
    rotate_left
    · first | refine Or.inl ⟨by rfl, fun w => ?_⟩ | (refine Or.inr ⟨by rfl, ?_⟩; with_reducible rfl)
      first | done | (go_simp; all_goals with_reducible rfl)
    try simp only [Act.put, List.setIfInBounds_toArray, List.set_cons_zero, List.set_cons_succ]
    refine Sim.one' (i := 4) (oi := { dst := some 14, op := Op.load 3 (Operand.tmp 13), type := 3, pos := "l10_chords.go:10", after := #[{ on := 3, ground := Ground.data }], guard := none }) (by kernel_rfl) rfl (by rfl) (fun w0 hO hX K hK => ?_)
    have hF := hO; (try simp only [Own, Item.Holds, apartI, CellsAt, Nat.reduceAdd, Nat.zero_add, List.mem_cons, List.not_mem_nil, or_false, forall_eq_or_imp, forall_eq, ne_eq, false_imp_iff, implies_true, and_true] at hF); ((have d0 := int_atT (b := w.heap.size) [4, 3, 3, 4, 4, 4, 3, 3, 3] hO (List.mem_cons_of_mem _ (List.mem_cons_of_mem _ List.mem_cons_self)) h0 h9 HT.out; have d1 := int_atT (b := w.heap.size + 1) [7, 7, 6, 8, 7, 7, 7, 6, 6] hO (List.mem_cons_of_mem _ List.mem_cons_self) h0 h9 HI.out))
    go_simp
    apply hK _ _ _ (fun _ => True)
    (repeat (first | (with_reducible exact hO) | (with_reducible apply Own.alloc) | (with_reducible apply Own.drew) | ((with_reducible apply Own.set_at); (focus (show _ ≤ _; omega)))))
    · first | exact trivial | exact hX | exact hX.below (below1 _) | exact RdIf.gone | exact hX.keep ((Below.refl _ _).setCell (by first | omega | (dsimp only; omega)) _)
    · exact (by first | exact XStab.true | exact XStab.rd | exact XStab.rdIf)
    · first | exact fun _ _ h => h.2 | exact fun _ _ h => h | exact fun h => absurd h (by decide)
    try simp only [upd, updI, List.map_cons, List.map_nil, eq_self, if_true, if_false, reduceIte, Nat.add_eq_left, Nat.left_eq_add, Nat.reduceEqDiff, List.set_cons_zero, List.set_cons_succ, hF]
    clear hK K hF hO
    try simp only [Act.put, List.setIfInBounds_toArray, List.set_cons_zero, List.set_cons_succ]
    refine Sim.takeP (i := 5) (d := some 15) (v := ?_) rfl rfl (by kernel_rfl) (by kernel_rfl) (by kernel_rfl) (fun _ _ _ h => h) (by first | exact XStab.true | exact XStab.rd | exact XStab.rdIf) ?_ ?_
    rotate_left
    · first | refine Or.inl ⟨by rfl, fun w => ?_⟩ | (refine Or.inr ⟨by rfl, ?_⟩; with_reducible rfl)
      first | done | (go_simp; all_goals with_reducible rfl)
    try simp only [Act.put, List.setIfInBounds_toArray, List.set_cons_zero, List.set_cons_succ]
    refine Sim.one' (i := 11) (oi := { dst := some 21, op := Op.buildSlice 70 3 #[(0, Operand.tmp 10), (1, Operand.tmp 15), (2, Operand.tmp 20)], type := 70, pos := "l10_chords.go:10", after := #[{ on := 0, ground := Ground.data }, { on := 5, ground := Ground.data }, { on := 10, ground := Ground.data }], guard := none }) (by kernel_rfl) rfl (by rfl) (fun w0 hO hX K hK => ?_)
    (have hF := hO; (try simp only [Own, Item.Holds, apartI, CellsAt, Nat.reduceAdd, Nat.zero_add, List.mem_cons, List.not_mem_nil, or_false, forall_eq_or_imp, forall_eq, ne_eq, false_imp_iff, implies_true, and_true] at hF))
    go_simp
    apply hK _ _ _ (fun _ => True)
    · exact hO.allocRow (k := 3) (cap := 3) 2 (by omega) (by unfold maxLen; omega) rfl
    · exact trivial
    · exact XStab.true
    · first | exact fun _ _ h => h.2 | exact fun h => absurd h (by decide)
    clear hO hF
    clear hK K
    try simp only [Act.put, List.setIfInBounds_toArray, List.set_cons_zero, List.set_cons_succ]
    refine Sim.takeP (i := 12) (d := some 6) (v := ?_) rfl rfl (by kernel_rfl) (by kernel_rfl) (by kernel_rfl) (fun _ _ _ h => h) (by first | exact XStab.true | exact XStab.rd | exact XStab.rdIf) ?_ ?_
    rotate_left
    · first | refine Or.inl ⟨by rfl, fun w => ?_⟩ | (refine Or.inr ⟨by rfl, ?_⟩; with_reducible rfl)
      first | done | (go_simp; all_goals with_reducible rfl)
    try simp only [Act.put, List.setIfInBounds_toArray, List.set_cons_zero, List.set_cons_succ]
    refine Sim.done (by kernel_rfl) (fun w1 hO hX => ?_) _
    (try simp only [World.size_alloc1, World.size_drew, Nat.reduceAdd] at hO); (try simp only [upd, updI, List.map_cons, List.map_nil, eq_self, if_true, if_false, reduceIte, Nat.add_eq_left, Nat.left_eq_add, Nat.reduceEqDiff, List.set_cons_zero, List.set_cons_succ] at hO)
    have hF := hO; (try simp only [Own, Item.Holds, apartI, CellsAt, Nat.reduceAdd, Nat.zero_add, List.mem_cons, List.not_mem_nil, or_false, forall_eq_or_imp, forall_eq, ne_eq, false_imp_iff, implies_true, and_true] at hF)
    rotate_left 1
    all_goals
      have d2 := int_atT (b := w.heap.size + 1 + 1) [0, 0, 0, 0, 10, 11, 10, 10, 9] hO (List.mem_cons_of_mem _ List.mem_cons_self) h0 h9 HS.out
      go_wp2_with (at_builtin; refine wpList_append_item rfl _ _ 70 rfl 61 i0 (.agg #[.int .i64 0, .int .i64 0]) 2 16 Tryd.underlying70 hi hz0 hz1 hz2 rfl (by decide) rfl rfl (Own.alloc hO) rfl one2t (by unfold maxLen; omega) (by omega) ?_; clear hO hF; intro v' w2 hO _; have hF := True.intro)
      go_ret
      rw [HE2.out]
      exact RowOut.mk hO

/- Chapter 10 in the model: chords. -/
open Go.RowKit

theorem adS_is {x : Pt} {v : Int × Int} {b : Bool} (h : adT? x v = b) (w : World) :
    Calls Tryd.prog 42 #[.agg #[.int .i64 x.s, .int .i64 x.a, .int .i64 x.o], .agg #[.int .i64 v.1, .int .i64 v.2]] w fun e w' => e = .returned (.tuple #[.agg (if b then #[.int .i64 (adT x v).s, .int .i64 (adT x v).a, .int .i64 (adT x v).o] else #[.int .i64 0, .int .i64 0, .int .i64 0]), .bool b]) ∧ Below w.heap.size w w' := by
  cases b
  · exact adS_no x.s x.a x.o v.1 v.2 w h
  · exact adS_yes x.s x.a x.o v.1 v.2 w h
theorem all_ixT {L : List (Int × Int)} {p : Int × Int → Bool} (h : ∀ (i : Nat) (v : Int × Int), i < L.length → L[i]? = some v → p v = true) : ∀ v, v ∈ L → p v = true := fun v hv => by
  obtain ⟨i, hi, rfl⟩ := List.getElem_of_mem hv
  exact h i _ hi (List.getElem?_eq_getElem hi)
theorem take_upT {L : List (Int × Int)} {x : Pt} {j : Nat} {v : Int × Int} (hv : L[j]? = some v) : pcC ((L.take j).map (adT x)) ++ [.int .i64 (adT x v).s, .int .i64 (adT x v).a, .int .i64 (adT x v).o] = pcC ((L.take (j + 1)).map (adT x)) := by
  rw [List.take_add_one, hv, List.map_append, pcC_append]
  rfl

theorem tnAt {w : World} {b off cap n : Nat} {v : List (Int × Int)} (h : SlAt w (.slice (some ⟨b, off, none⟩) n cap) n 2 (tnC v)) {j : Nat} {x : Int × Int} (hx : v[j]? = some x) :
    w.cell? ⟨b, off + j * 2, none⟩ = some (.int .i64 x.1) ∧ w.cell? ⟨b, off + j * 2 + 1, none⟩ = some (.int .i64 x.2) := by
  obtain ⟨h0, h1⟩ := tnC_at hx
  exact ⟨h.cellAt h0, h.cellAt h1⟩

set_option maxRecDepth 8000 in
set_option maxHeartbeats 4000000 in
theorem chS_in (x : Pt) (k : Int) (w : World) (hp : pvP x = true) (hk : inB k 0 8 = true) :
    Calls Tryd.prog 27 #[.agg #[.int .i64 x.s, .int .i64 x.a, .int .i64 x.o], .int .i64 k] w (RowOutB 26 3 (chL x k).length (pcC (chL x k)) (chB x k) w) := by
  have hO := Own.start w
  have hF := True.intro
  obtain ⟨i0, hi, hz0, hz1, hz2⟩ := info_parts infoPi
  have HP := hid (And.intro hp hk)
  have HV := hid (fun W => pvS_is W (show pvB x.s x.a x.o = true from hp))
  have HK := hid (fun W => in_is W hk)
  have HT := hid (fun W => tonesS_any k W (inB_iff.1 hk))
  obtain ⟨L, hL⟩ : ∃ L, toneL k = L := ⟨_, rfl⟩
  have hl := toneL_len k
  rw [hL] at HT hl
  obtain ⟨n, hn⟩ : ∃ n, L.length = n := ⟨_, rfl⟩
  rw [hn] at HT hl
  have HL := hid (And.intro hL hn)
  clear hp hk hL hn
  go_enter Tryd.func27, Tryd.ntmps27
  go_wp2_with fail
  replace hO := (Own.alloc (t := 26) (vs := [.int .i64 x.s, .int .i64 x.a, .int .i64 x.o]) hO).allocRow (e := 26) (cur := #[]) (k := 0) (cap := 0) 3 (by omega) (by unfold maxLen; omega) rfl
  clear hF
  have hF := hO; (try simp only [Own, Item.Holds, apartI, CellsAt, Nat.reduceAdd, Nat.zero_add, List.mem_cons, List.not_mem_nil, or_false, forall_eq_or_imp, forall_eq, ne_eq, false_imp_iff, implies_true, and_true] at hF)
  go_wp2_with (first | (go_at_call 25; apply own_at hO; (repeat (first | (with_reducible exact hO) | (with_reducible apply Own.alloc) | (with_reducible apply Own.drew) | ((with_reducible apply Own.set_at); (focus (show _ ≤ _; omega))))); have hG := hF; clear hF; clear hO; intro hO; refine own_call hO (fun hB => HV.out _) ?_; clear hO; intro w1 hO; (try simp only [World.size_alloc1, World.size_drew, Nat.reduceAdd] at hO); (try simp only [upd, updI, List.map_cons, List.map_nil, eq_self, if_true, if_false, reduceIte, Nat.add_eq_left, Nat.left_eq_add, Nat.reduceEqDiff, List.set_cons_zero, List.set_cons_succ, hG] at hO); clear hG; have hF := hO; (try simp only [Own, Item.Holds, apartI, CellsAt, Nat.reduceAdd, Nat.zero_add, List.mem_cons, List.not_mem_nil, or_false, forall_eq_or_imp, forall_eq, ne_eq, false_imp_iff, implies_true, and_true] at hF)) | (go_at_call 39; apply own_at hO; (repeat (first | (with_reducible exact hO) | (with_reducible apply Own.alloc) | (with_reducible apply Own.drew) | ((with_reducible apply Own.set_at); (focus (show _ ≤ _; omega))))); have hG := hF; clear hF; clear hO; intro hO; refine own_call hO (fun hB => HK.out _) ?_; clear hO; intro w1 hO; (try simp only [World.size_alloc1, World.size_drew, Nat.reduceAdd] at hO); (try simp only [upd, updI, List.map_cons, List.map_nil, eq_self, if_true, if_false, reduceIte, Nat.add_eq_left, Nat.left_eq_add, Nat.reduceEqDiff, List.set_cons_zero, List.set_cons_succ, hG] at hO); clear hG; have hF := hO; (try simp only [Own, Item.Holds, apartI, CellsAt, Nat.reduceAdd, Nat.zero_add, List.mem_cons, List.not_mem_nil, or_false, forall_eq_or_imp, forall_eq, ne_eq, false_imp_iff, implies_true, and_true] at hF)) | (go_at_call 41; apply own_at hO; (repeat (first | (with_reducible exact hO) | (with_reducible apply Own.alloc) | (with_reducible apply Own.drew) | ((with_reducible apply Own.set_at); (focus (show _ ≤ _; omega))))); have hG := hF; clear hF; clear hO; intro hO; refine own_call_row hO (fun hB => HT.out _) ?_; clear hO; intro v w1 hO; (try simp only [World.size_alloc1, World.size_drew, Nat.reduceAdd] at hO); (try simp only [upd, updI, List.map_cons, List.map_nil, eq_self, if_true, if_false, reduceIte, Nat.add_eq_left, Nat.left_eq_add, Nat.reduceEqDiff, List.set_cons_zero, List.set_cons_succ, hG] at hO); clear hG; have hF := hO; (try simp only [Own, Item.Holds, apartI, CellsAt, Nat.reduceAdd, Nat.zero_add, List.mem_cons, List.not_mem_nil, or_false, forall_eq_or_imp, forall_eq, ne_eq, false_imp_iff, implies_true, and_true] at hF)))
  obtain ⟨q, cap, hq, hc1, hc2⟩ := hO.row_open (by omega)
  subst hq
  clear hc1 hc2
  replace hO := hO.perm (List.Perm.swap _ _ _)
  go_loopw [6, 8] (fun u t wr => ∃ j : Nat, j ≤ n ∧ t = .int .i64 j ∧ Hid (∀ (i : Nat) (v : Int × Int), i < j → L[i]? = some v → adT? x v = true) ∧ Own w.heap.size (Below w.heap.size w) wr [.row 26 3 u j (pcC ((L.take j).map (adT x))), .row 61 2 (.slice (some ⟨q, 0, none⟩) n cap) n (tnC L), .blk w.heap.size [.int .i64 x.s, .int .i64 x.a, .int .i64 x.o]]) (fun _ t _ => n - (intOf t).toNat)
  case atStart => exact ⟨0, by omega, rfl, fun i v h => by omega, hO⟩
  case round =>
    clear hO hF
    obtain ⟨j, hj, rfl, hok, hO⟩ := hrel
    have hF := hO; (try simp only [Own, Item.Holds, apartI, CellsAt, Nat.reduceAdd, Nat.zero_add, List.mem_cons, List.not_mem_nil, or_false, forall_eq_or_imp, forall_eq, ne_eq, false_imp_iff, implies_true, and_true] at hF)
    by_cases he : j = n
    · subst he
      have hall : ∀ v, v ∈ toneL k → adT? x v = true := by
        rw [HL.out.1]
        exact all_ixT fun i v hi hv => hok.out i v (by have := HL.out.2; omega) hv
      have hb : chB x k = true := chB_iff.2 ⟨HP.out.1, inB_iff.1 HP.out.2, hall⟩
      have HE := hid (show chL x k = (L.take j).map (adT x) by rw [chL_yes hb, HL.out.1, ← HL.out.2, List.take_length])
      have HN := hid (show (chL x k).length = j by rw [chL_n hb, HL.out.1, HL.out.2])
      have HB := hid hb
      clear hall hb
      go_wp2_with fail
      go_ret2
      rw [HN.out, HE.out, HB.out]
      exact RowOutB.mk hO
    · have hlt : j < n := by omega
      have hlt2 : (j : Int) < n := by omega
      obtain ⟨v, hv⟩ : ∃ v, L[j]? = some v := ⟨_, List.getElem?_eq_getElem (by have := HL.out.2; omega)⟩
      have HX := hid hv
      have HU := hid (take_upT (x := x) hv)
      obtain ⟨b, hb⟩ : ∃ b, adT? x v = b := ⟨_, rfl⟩
      have HA := hid (fun W => adS_is hb W)
      clear he hv
      cases b
      · have HB := hid (show chB x k = false by
          rw [← Bool.not_eq_true]
          intro h
          have := (chB_iff.1 h).2.2 v (by rw [HL.out.1]; exact List.mem_of_getElem? HX.out)
          rw [hb] at this
          cases this)
        clear hb
        go_wp2_with fail
        apply own_code hO
        (repeat (first | (with_reducible exact hO) | (with_reducible apply Own.alloc) | (with_reducible apply Own.drew) | ((with_reducible apply Own.set_at); (focus (show _ ≤ _; omega)))))
        have hG := hF; clear hF; clear hO; intro hO
        (try simp only [World.size_alloc1, World.size_drew, Nat.reduceAdd] at hO); (try simp only [upd, updI, List.map_cons, List.map_nil, eq_self, if_true, if_false, reduceIte, Nat.add_eq_left, Nat.left_eq_add, Nat.reduceEqDiff, List.set_cons_zero, List.set_cons_succ, hG] at hO); clear hG
        refine region_own (X := fun _ => True) [10] (by kernel_rfl) (hO) (trivial) (by first | exact XStab.true | exact XStab.rd | exact XStab.rdIf) ?_
        clear hO
        refine Sim.take (i := 0) (d := some 30) (v := ?_) rfl rfl (by kernel_rfl) (by kernel_rfl) (by kernel_rfl) (by kernel_rfl) (fun _ _ _ h => h) (by first | exact XStab.true | exact XStab.rd | exact XStab.rdIf) ?_ ?_
        rotate_left
        · first | refine Or.inl ⟨by rfl, fun w hO => ?_⟩ | (refine Or.inr ⟨by rfl, ?_⟩; with_reducible rfl)
          first | done | (have hF := hO; (try simp only [Own, Item.Holds, apartI, CellsAt, Nat.reduceAdd, Nat.zero_add, List.mem_cons, List.not_mem_nil, or_false, forall_eq_or_imp, forall_eq, ne_eq, false_imp_iff, implies_true, and_true] at hF); (((try (have dd := hO.2.row_cell (tnC_at HX.out).1; have de := hO.2.row_cell (tnC_at HX.out).2)); (try (have dd := hO.2.2.row_cell (tnC_at HX.out).1; have de := hO.2.2.row_cell (tnC_at HX.out).2)))); refine Out.same ?_; go_simp; all_goals with_reducible rfl)
        try simp only [Act.put, List.setIfInBounds_toArray, List.set_cons_zero, List.set_cons_succ]
        refine Sim.takeP (i := 1) (d := some 31) (v := ?_) rfl rfl (by kernel_rfl) (by kernel_rfl) (by kernel_rfl) (fun _ _ _ h => h) (by first | exact XStab.true | exact XStab.rd | exact XStab.rdIf) ?_ ?_
        rotate_left
        · first | refine Or.inl ⟨by rfl, fun w => ?_⟩ | (refine Or.inr ⟨by rfl, ?_⟩; with_reducible rfl)
          first | done | (go_simp; all_goals with_reducible rfl)
        try simp only [Act.put, List.setIfInBounds_toArray, List.set_cons_zero, List.set_cons_succ]
        refine Sim.takeP (i := 2) (d := some 32) (v := ?_) rfl rfl (by kernel_rfl) (by kernel_rfl) (by kernel_rfl) (fun _ _ _ h => h) (by first | exact XStab.true | exact XStab.rd | exact XStab.rdIf) ?_ ?_
        rotate_left
        · first | refine Or.inl ⟨by rfl, fun w => ?_⟩ | (refine Or.inr ⟨by rfl, ?_⟩; with_reducible rfl)
          first | done | (go_simp; all_goals with_reducible rfl)
        try simp only [Act.put, List.setIfInBounds_toArray, List.set_cons_zero, List.set_cons_succ]
        refine Sim.takeP (i := 3) (d := some 33) (v := ?_) rfl rfl (by kernel_rfl) (by kernel_rfl) (by kernel_rfl) (fun _ _ _ h => h) (by first | exact XStab.true | exact XStab.rd | exact XStab.rdIf) ?_ ?_
        rotate_left
        · first | refine Or.inl ⟨by rfl, fun w => ?_⟩ | (refine Or.inr ⟨by rfl, ?_⟩; with_reducible rfl)
          first | done | (go_simp; all_goals with_reducible rfl)
        try simp only [Act.put, List.setIfInBounds_toArray, List.set_cons_zero, List.set_cons_succ]
        refine Sim.take (i := 4) (d := some 34) (v := ?_) rfl rfl (by kernel_rfl) (by kernel_rfl) (by kernel_rfl) (by kernel_rfl) (fun _ _ _ h => h) (by first | exact XStab.true | exact XStab.rd | exact XStab.rdIf) ?_ ?_
        rotate_left
        · first | refine Or.inl ⟨by rfl, fun w hO => ?_⟩ | (refine Or.inr ⟨by rfl, ?_⟩; with_reducible rfl)
          first | done | (have hF := hO; (try simp only [Own, Item.Holds, apartI, CellsAt, Nat.reduceAdd, Nat.zero_add, List.mem_cons, List.not_mem_nil, or_false, forall_eq_or_imp, forall_eq, ne_eq, false_imp_iff, implies_true, and_true] at hF); (((try (have dd := hO.2.row_cell (tnC_at HX.out).1; have de := hO.2.row_cell (tnC_at HX.out).2)); (try (have dd := hO.2.2.row_cell (tnC_at HX.out).1; have de := hO.2.2.row_cell (tnC_at HX.out).2)))); refine Out.same ?_; go_simp; all_goals with_reducible rfl)
        try simp only [Act.put, List.setIfInBounds_toArray, List.set_cons_zero, List.set_cons_succ]
        refine Sim.take (i := 5) (d := some 35) (v := ?_) rfl rfl (by kernel_rfl) (by kernel_rfl) (by kernel_rfl) (by kernel_rfl) (fun _ _ _ h => h) (by first | exact XStab.true | exact XStab.rd | exact XStab.rdIf) ?_ ?_
        rotate_left
        · first | refine Or.inl ⟨by rfl, fun w hO => ?_⟩ | (refine Or.inr ⟨by rfl, ?_⟩; with_reducible rfl)
          first | done | (refine Out.call (f := 42) (args := ?_) ?_ ?_; rotate_left; (focus (go_simp; all_goals with_reducible rfl)); exact HA.out _)
        try simp only [Act.put, List.setIfInBounds_toArray, List.set_cons_zero, List.set_cons_succ]
        refine Sim.takeP (i := 6) (d := some 29) (v := ?_) rfl rfl (by kernel_rfl) (by kernel_rfl) (by kernel_rfl) (fun _ _ _ h => h) (by first | exact XStab.true | exact XStab.rd | exact XStab.rdIf) ?_ ?_
        rotate_left
        · first | refine Or.inl ⟨by rfl, fun w => ?_⟩ | (refine Or.inr ⟨by rfl, ?_⟩; with_reducible rfl)
          first | done | (go_simp; all_goals with_reducible rfl)
        try simp only [Act.put, List.setIfInBounds_toArray, List.set_cons_zero, List.set_cons_succ]
        refine Sim.takeP (i := 7) (d := some 36) (v := ?_) rfl rfl (by kernel_rfl) (by kernel_rfl) (by kernel_rfl) (fun _ _ _ h => h) (by first | exact XStab.true | exact XStab.rd | exact XStab.rdIf) ?_ ?_
        rotate_left
        · first | refine Or.inl ⟨by rfl, fun w => ?_⟩ | (refine Or.inr ⟨by rfl, ?_⟩; with_reducible rfl)
          first | done | (go_simp; all_goals with_reducible rfl)
        try simp only [Act.put, List.setIfInBounds_toArray, List.set_cons_zero, List.set_cons_succ]
        refine Sim.takeP (i := 8) (d := some 37) (v := ?_) rfl rfl (by kernel_rfl) (by kernel_rfl) (by kernel_rfl) (fun _ _ _ h => h) (by first | exact XStab.true | exact XStab.rd | exact XStab.rdIf) ?_ ?_
        rotate_left
        · first | refine Or.inl ⟨by rfl, fun w => ?_⟩ | (refine Or.inr ⟨by rfl, ?_⟩; with_reducible rfl)
          first | done | (go_simp; all_goals with_reducible rfl)
        try simp only [Act.put, List.setIfInBounds_toArray, List.set_cons_zero, List.set_cons_succ]
        refine Sim.one' (i := 9) (oi := { dst := some 9, op := Op.alloc 26, type := 0, pos := "l10_chords.go:25", after := #[], guard := none }) (by kernel_rfl) rfl (by rfl) (fun w0 hO hX K hK => ?_)
        have hF := hO; (try simp only [Own, Item.Holds, apartI, CellsAt, Nat.reduceAdd, Nat.zero_add, List.mem_cons, List.not_mem_nil, or_false, forall_eq_or_imp, forall_eq, ne_eq, false_imp_iff, implies_true, and_true] at hF)
        go_simp
        apply hK _ _ _ (fun _ => True)
        (repeat (first | (with_reducible exact hO) | (with_reducible apply Own.alloc) | (with_reducible apply Own.drew) | ((with_reducible apply Own.set_at); (focus (show _ ≤ _; omega)))))
        · first | exact trivial | exact hX | exact hX.below (below1 _) | exact RdIf.gone | exact hX.keep ((Below.refl _ _).setCell (by first | omega | (dsimp only; omega)) _)
        · exact (by first | exact XStab.true | exact XStab.rd | exact XStab.rdIf)
        · first | exact fun _ _ h => h.2 | exact fun _ _ h => h | exact fun h => absurd h (by decide)
        try simp only [upd, updI, List.map_cons, List.map_nil, eq_self, if_true, if_false, reduceIte, Nat.add_eq_left, Nat.left_eq_add, Nat.reduceEqDiff, List.set_cons_zero, List.set_cons_succ, hF]
        clear hK K hF hO
        try simp only [Act.put, List.setIfInBounds_toArray, List.set_cons_zero, List.set_cons_succ]
        refine Sim.one' (i := 10) (oi := { dst := none, op := Op.store 26 (Operand.tmp 9) (Operand.tmp 36), type := 0, pos := "l10_chords.go:25", after := #[{ on := 9, ground := Ground.data }, { on := 7, ground := Ground.data }, { on := 5, ground := Ground.chain }, { on := 0, ground := Ground.phase }, { on := 1, ground := Ground.phase }, { on := 2, ground := Ground.phase }, { on := 3, ground := Ground.phase }, { on := 4, ground := Ground.phase }, { on := 5, ground := Ground.phase }, { on := 6, ground := Ground.phase }, { on := 7, ground := Ground.phase }, { on := 8, ground := Ground.textOnly Departure.lateStores }, { on := 9, ground := Ground.phase }], guard := none }) (by kernel_rfl) rfl (by rfl) (fun w0 hO hX K hK => ?_)
        have hF := hO; (try simp only [Own, Item.Holds, apartI, CellsAt, Nat.reduceAdd, Nat.zero_add, List.mem_cons, List.not_mem_nil, or_false, forall_eq_or_imp, forall_eq, ne_eq, false_imp_iff, implies_true, and_true] at hF); (((try (have dd := hO.2.row_cell (tnC_at HX.out).1; have de := hO.2.row_cell (tnC_at HX.out).2)); (try (have dd := hO.2.2.row_cell (tnC_at HX.out).1; have de := hO.2.2.row_cell (tnC_at HX.out).2))))
        go_simp
        apply hK _ _ _ (fun _ => True)
        (repeat (first | (with_reducible exact hO) | (with_reducible apply Own.alloc) | (with_reducible apply Own.drew) | ((with_reducible apply Own.set_at); (focus (show _ ≤ _; omega)))))
        · first | exact trivial | exact hX | exact hX.below (below1 _) | exact RdIf.gone | exact hX.keep ((Below.refl _ _).setCell (by first | omega | (dsimp only; omega)) _)
        · exact (by first | exact XStab.true | exact XStab.rd | exact XStab.rdIf)
        · first | exact fun _ _ h => h.2 | exact fun _ _ h => h | exact fun h => absurd h (by decide)
        try simp only [upd, updI, List.map_cons, List.map_nil, eq_self, if_true, if_false, reduceIte, Nat.add_eq_left, Nat.left_eq_add, Nat.reduceEqDiff, List.set_cons_zero, List.set_cons_succ, hF]
        clear hK K hF hO
        try simp only [Act.put, List.setIfInBounds_toArray, List.set_cons_zero, List.set_cons_succ]
        refine Sim.takeP (i := 11) (d := some 10) (v := ?_) rfl rfl (by kernel_rfl) (by kernel_rfl) (by kernel_rfl) (fun _ _ _ h => h) (by first | exact XStab.true | exact XStab.rd | exact XStab.rdIf) ?_ ?_
        rotate_left
        · first | refine Or.inl ⟨by rfl, fun w => ?_⟩ | (refine Or.inr ⟨by rfl, ?_⟩; with_reducible rfl)
          first | done | (go_simp; all_goals with_reducible rfl)
        try simp only [Act.put, List.setIfInBounds_toArray, List.set_cons_zero, List.set_cons_succ]
        refine Sim.done (by kernel_rfl) (fun w1 hO hX => ?_) _
        (try simp only [World.size_alloc1, World.size_drew, Nat.reduceAdd] at hO); (try simp only [upd, updI, List.map_cons, List.map_nil, eq_self, if_true, if_false, reduceIte, Nat.add_eq_left, Nat.left_eq_add, Nat.reduceEqDiff, List.set_cons_zero, List.set_cons_succ] at hO)
        have hF := hO; (try simp only [Own, Item.Holds, apartI, CellsAt, Nat.reduceAdd, Nat.zero_add, List.mem_cons, List.not_mem_nil, or_false, forall_eq_or_imp, forall_eq, ne_eq, false_imp_iff, implies_true, and_true] at hF)
        all_goals
          go_wp2_with fail
          go_ret2
          rw [HB.out, chL_no HB.out]
          exact RowOutB.mk (hO.allocRow (e := 26) (cur := #[]) (k := 0) (cap := 0) 3 (by omega) (by unfold maxLen; omega) rfl)
      · have HB := hid (show ∀ (i : Nat) (v : Int × Int), i < j + 1 → L[i]? = some v → adT? x v = true from fun i u hi hu => by
          rcases (show i < j ∨ i = j by omega) with h | rfl
          · exact hok.out i u h hu
          · rw [HX.out] at hu; cases hu; exact hb)
        clear hb
        go_wp2_with fail
        apply own_code hO
        (repeat (first | (with_reducible exact hO) | (with_reducible apply Own.alloc) | (with_reducible apply Own.drew) | ((with_reducible apply Own.set_at); (focus (show _ ≤ _; omega)))))
        have hG := hF; clear hF; clear hO; intro hO
        (try simp only [World.size_alloc1, World.size_drew, Nat.reduceAdd] at hO); (try simp only [upd, updI, List.map_cons, List.map_nil, eq_self, if_true, if_false, reduceIte, Nat.add_eq_left, Nat.left_eq_add, Nat.reduceEqDiff, List.set_cons_zero, List.set_cons_succ, hG] at hO); clear hG
        refine region_own (X := fun _ => True) [10] (by kernel_rfl) (hO) (trivial) (by first | exact XStab.true | exact XStab.rd | exact XStab.rdIf) ?_
        clear hO
        refine Sim.take (i := 0) (d := some 30) (v := ?_) rfl rfl (by kernel_rfl) (by kernel_rfl) (by kernel_rfl) (by kernel_rfl) (fun _ _ _ h => h) (by first | exact XStab.true | exact XStab.rd | exact XStab.rdIf) ?_ ?_
        rotate_left
        · first | refine Or.inl ⟨by rfl, fun w hO => ?_⟩ | (refine Or.inr ⟨by rfl, ?_⟩; with_reducible rfl)
          first | done | (have hF := hO; (try simp only [Own, Item.Holds, apartI, CellsAt, Nat.reduceAdd, Nat.zero_add, List.mem_cons, List.not_mem_nil, or_false, forall_eq_or_imp, forall_eq, ne_eq, false_imp_iff, implies_true, and_true] at hF); (((try (have dd := hO.2.row_cell (tnC_at HX.out).1; have de := hO.2.row_cell (tnC_at HX.out).2)); (try (have dd := hO.2.2.row_cell (tnC_at HX.out).1; have de := hO.2.2.row_cell (tnC_at HX.out).2)))); refine Out.same ?_; go_simp; all_goals with_reducible rfl)
        try simp only [Act.put, List.setIfInBounds_toArray, List.set_cons_zero, List.set_cons_succ]
        refine Sim.takeP (i := 1) (d := some 31) (v := ?_) rfl rfl (by kernel_rfl) (by kernel_rfl) (by kernel_rfl) (fun _ _ _ h => h) (by first | exact XStab.true | exact XStab.rd | exact XStab.rdIf) ?_ ?_
        rotate_left
        · first | refine Or.inl ⟨by rfl, fun w => ?_⟩ | (refine Or.inr ⟨by rfl, ?_⟩; with_reducible rfl)
          first | done | (go_simp; all_goals with_reducible rfl)
        try simp only [Act.put, List.setIfInBounds_toArray, List.set_cons_zero, List.set_cons_succ]
        refine Sim.takeP (i := 2) (d := some 32) (v := ?_) rfl rfl (by kernel_rfl) (by kernel_rfl) (by kernel_rfl) (fun _ _ _ h => h) (by first | exact XStab.true | exact XStab.rd | exact XStab.rdIf) ?_ ?_
        rotate_left
        · first | refine Or.inl ⟨by rfl, fun w => ?_⟩ | (refine Or.inr ⟨by rfl, ?_⟩; with_reducible rfl)
          first | done | (go_simp; all_goals with_reducible rfl)
        try simp only [Act.put, List.setIfInBounds_toArray, List.set_cons_zero, List.set_cons_succ]
        refine Sim.takeP (i := 3) (d := some 33) (v := ?_) rfl rfl (by kernel_rfl) (by kernel_rfl) (by kernel_rfl) (fun _ _ _ h => h) (by first | exact XStab.true | exact XStab.rd | exact XStab.rdIf) ?_ ?_
        rotate_left
        · first | refine Or.inl ⟨by rfl, fun w => ?_⟩ | (refine Or.inr ⟨by rfl, ?_⟩; with_reducible rfl)
          first | done | (go_simp; all_goals with_reducible rfl)
        try simp only [Act.put, List.setIfInBounds_toArray, List.set_cons_zero, List.set_cons_succ]
        refine Sim.take (i := 4) (d := some 34) (v := ?_) rfl rfl (by kernel_rfl) (by kernel_rfl) (by kernel_rfl) (by kernel_rfl) (fun _ _ _ h => h) (by first | exact XStab.true | exact XStab.rd | exact XStab.rdIf) ?_ ?_
        rotate_left
        · first | refine Or.inl ⟨by rfl, fun w hO => ?_⟩ | (refine Or.inr ⟨by rfl, ?_⟩; with_reducible rfl)
          first | done | (have hF := hO; (try simp only [Own, Item.Holds, apartI, CellsAt, Nat.reduceAdd, Nat.zero_add, List.mem_cons, List.not_mem_nil, or_false, forall_eq_or_imp, forall_eq, ne_eq, false_imp_iff, implies_true, and_true] at hF); (((try (have dd := hO.2.row_cell (tnC_at HX.out).1; have de := hO.2.row_cell (tnC_at HX.out).2)); (try (have dd := hO.2.2.row_cell (tnC_at HX.out).1; have de := hO.2.2.row_cell (tnC_at HX.out).2)))); refine Out.same ?_; go_simp; all_goals with_reducible rfl)
        try simp only [Act.put, List.setIfInBounds_toArray, List.set_cons_zero, List.set_cons_succ]
        refine Sim.take (i := 5) (d := some 35) (v := ?_) rfl rfl (by kernel_rfl) (by kernel_rfl) (by kernel_rfl) (by kernel_rfl) (fun _ _ _ h => h) (by first | exact XStab.true | exact XStab.rd | exact XStab.rdIf) ?_ ?_
        rotate_left
        · first | refine Or.inl ⟨by rfl, fun w hO => ?_⟩ | (refine Or.inr ⟨by rfl, ?_⟩; with_reducible rfl)
          first | done | (refine Out.call (f := 42) (args := ?_) ?_ ?_; rotate_left; (focus (go_simp; all_goals with_reducible rfl)); exact HA.out _)
        try simp only [Act.put, List.setIfInBounds_toArray, List.set_cons_zero, List.set_cons_succ]
        refine Sim.takeP (i := 6) (d := some 29) (v := ?_) rfl rfl (by kernel_rfl) (by kernel_rfl) (by kernel_rfl) (fun _ _ _ h => h) (by first | exact XStab.true | exact XStab.rd | exact XStab.rdIf) ?_ ?_
        rotate_left
        · first | refine Or.inl ⟨by rfl, fun w => ?_⟩ | (refine Or.inr ⟨by rfl, ?_⟩; with_reducible rfl)
          first | done | (go_simp; all_goals with_reducible rfl)
        try simp only [Act.put, List.setIfInBounds_toArray, List.set_cons_zero, List.set_cons_succ]
        refine Sim.takeP (i := 7) (d := some 36) (v := ?_) rfl rfl (by kernel_rfl) (by kernel_rfl) (by kernel_rfl) (fun _ _ _ h => h) (by first | exact XStab.true | exact XStab.rd | exact XStab.rdIf) ?_ ?_
        rotate_left
        · first | refine Or.inl ⟨by rfl, fun w => ?_⟩ | (refine Or.inr ⟨by rfl, ?_⟩; with_reducible rfl)
          first | done | (go_simp; all_goals with_reducible rfl)
        try simp only [Act.put, List.setIfInBounds_toArray, List.set_cons_zero, List.set_cons_succ]
        refine Sim.takeP (i := 8) (d := some 37) (v := ?_) rfl rfl (by kernel_rfl) (by kernel_rfl) (by kernel_rfl) (fun _ _ _ h => h) (by first | exact XStab.true | exact XStab.rd | exact XStab.rdIf) ?_ ?_
        rotate_left
        · first | refine Or.inl ⟨by rfl, fun w => ?_⟩ | (refine Or.inr ⟨by rfl, ?_⟩; with_reducible rfl)
          first | done | (go_simp; all_goals with_reducible rfl)
        try simp only [Act.put, List.setIfInBounds_toArray, List.set_cons_zero, List.set_cons_succ]
        refine Sim.one' (i := 9) (oi := { dst := some 9, op := Op.alloc 26, type := 0, pos := "l10_chords.go:25", after := #[], guard := none }) (by kernel_rfl) rfl (by rfl) (fun w0 hO hX K hK => ?_)
        have hF := hO; (try simp only [Own, Item.Holds, apartI, CellsAt, Nat.reduceAdd, Nat.zero_add, List.mem_cons, List.not_mem_nil, or_false, forall_eq_or_imp, forall_eq, ne_eq, false_imp_iff, implies_true, and_true] at hF)
        go_simp
        apply hK _ _ _ (fun _ => True)
        (repeat (first | (with_reducible exact hO) | (with_reducible apply Own.alloc) | (with_reducible apply Own.drew) | ((with_reducible apply Own.set_at); (focus (show _ ≤ _; omega)))))
        · first | exact trivial | exact hX | exact hX.below (below1 _) | exact RdIf.gone | exact hX.keep ((Below.refl _ _).setCell (by first | omega | (dsimp only; omega)) _)
        · exact (by first | exact XStab.true | exact XStab.rd | exact XStab.rdIf)
        · first | exact fun _ _ h => h.2 | exact fun _ _ h => h | exact fun h => absurd h (by decide)
        try simp only [upd, updI, List.map_cons, List.map_nil, eq_self, if_true, if_false, reduceIte, Nat.add_eq_left, Nat.left_eq_add, Nat.reduceEqDiff, List.set_cons_zero, List.set_cons_succ, hF]
        clear hK K hF hO
        try simp only [Act.put, List.setIfInBounds_toArray, List.set_cons_zero, List.set_cons_succ]
        refine Sim.one' (i := 10) (oi := { dst := none, op := Op.store 26 (Operand.tmp 9) (Operand.tmp 36), type := 0, pos := "l10_chords.go:25", after := #[{ on := 9, ground := Ground.data }, { on := 7, ground := Ground.data }, { on := 5, ground := Ground.chain }, { on := 0, ground := Ground.phase }, { on := 1, ground := Ground.phase }, { on := 2, ground := Ground.phase }, { on := 3, ground := Ground.phase }, { on := 4, ground := Ground.phase }, { on := 5, ground := Ground.phase }, { on := 6, ground := Ground.phase }, { on := 7, ground := Ground.phase }, { on := 8, ground := Ground.textOnly Departure.lateStores }, { on := 9, ground := Ground.phase }], guard := none }) (by kernel_rfl) rfl (by rfl) (fun w0 hO hX K hK => ?_)
        have hF := hO; (try simp only [Own, Item.Holds, apartI, CellsAt, Nat.reduceAdd, Nat.zero_add, List.mem_cons, List.not_mem_nil, or_false, forall_eq_or_imp, forall_eq, ne_eq, false_imp_iff, implies_true, and_true] at hF); (((try (have dd := hO.2.row_cell (tnC_at HX.out).1; have de := hO.2.row_cell (tnC_at HX.out).2)); (try (have dd := hO.2.2.row_cell (tnC_at HX.out).1; have de := hO.2.2.row_cell (tnC_at HX.out).2))))
        go_simp
        apply hK _ _ _ (fun _ => True)
        (repeat (first | (with_reducible exact hO) | (with_reducible apply Own.alloc) | (with_reducible apply Own.drew) | ((with_reducible apply Own.set_at); (focus (show _ ≤ _; omega)))))
        · first | exact trivial | exact hX | exact hX.below (below1 _) | exact RdIf.gone | exact hX.keep ((Below.refl _ _).setCell (by first | omega | (dsimp only; omega)) _)
        · exact (by first | exact XStab.true | exact XStab.rd | exact XStab.rdIf)
        · first | exact fun _ _ h => h.2 | exact fun _ _ h => h | exact fun h => absurd h (by decide)
        try simp only [upd, updI, List.map_cons, List.map_nil, eq_self, if_true, if_false, reduceIte, Nat.add_eq_left, Nat.left_eq_add, Nat.reduceEqDiff, List.set_cons_zero, List.set_cons_succ, hF]
        clear hK K hF hO
        try simp only [Act.put, List.setIfInBounds_toArray, List.set_cons_zero, List.set_cons_succ]
        refine Sim.takeP (i := 11) (d := some 10) (v := ?_) rfl rfl (by kernel_rfl) (by kernel_rfl) (by kernel_rfl) (fun _ _ _ h => h) (by first | exact XStab.true | exact XStab.rd | exact XStab.rdIf) ?_ ?_
        rotate_left
        · first | refine Or.inl ⟨by rfl, fun w => ?_⟩ | (refine Or.inr ⟨by rfl, ?_⟩; with_reducible rfl)
          first | done | (go_simp; all_goals with_reducible rfl)
        try simp only [Act.put, List.setIfInBounds_toArray, List.set_cons_zero, List.set_cons_succ]
        refine Sim.done (by kernel_rfl) (fun w1 hO hX => ?_) _
        (try simp only [World.size_alloc1, World.size_drew, Nat.reduceAdd] at hO); (try simp only [upd, updI, List.map_cons, List.map_nil, eq_self, if_true, if_false, reduceIte, Nat.add_eq_left, Nat.left_eq_add, Nat.reduceEqDiff, List.set_cons_zero, List.set_cons_succ] at hO)
        have hF := hO; (try simp only [Own, Item.Holds, apartI, CellsAt, Nat.reduceAdd, Nat.zero_add, List.mem_cons, List.not_mem_nil, or_false, forall_eq_or_imp, forall_eq, ne_eq, false_imp_iff, implies_true, and_true] at hF)
        all_goals
          go_wp2_with (at_builtin; apply own_list hO; (repeat (first | (with_reducible exact hO) | (with_reducible apply Own.alloc) | (with_reducible apply Own.drew) | ((with_reducible apply Own.set_at); (focus (show _ ≤ _; omega))))); have hG := hF; clear hF; clear hO; intro hO; (try simp only [World.size_alloc1, World.size_drew, Nat.reduceAdd] at hO); (try simp only [upd, updI, List.map_cons, List.map_nil, eq_self, if_true, if_false, reduceIte, Nat.add_eq_left, Nat.left_eq_add, Nat.reduceEqDiff, List.set_cons_zero, List.set_cons_succ, hG] at hO); clear hG; (try simp only [World.size_setCell] at hO); have hF := hO; (try simp only [Own, Item.Holds, apartI, CellsAt, Nat.reduceAdd, Nat.zero_add, List.mem_cons, List.not_mem_nil, or_false, forall_eq_or_imp, forall_eq, ne_eq, false_imp_iff, implies_true, and_true] at hF); replace hO := Own.sub (.cons_cons _ (.cons _ (List.Sublist.refl _))) hO; refine wpList_append_item rfl _ _ 23 rfl 26 i0 (.agg #[.int .i64 0, .int .i64 0, .int .i64 0]) 3 24 Tryd.underlying23 hi hz0 hz1 hz2 rfl (by decide) rfl rfl hO rfl one3t (by unfold maxLen; omega) (by omega) ?_; clear hO hF; intro v' w2 hO _; have hF := True.intro)
          go_roundw
          case rel => exact ⟨j + 1, by omega, by go_num, HB.out, by rw [← HU.out]; exact hO⟩
          case measure => simp [intOf]; omega

set_option maxHeartbeats 2000000 in
theorem chS_out (x : Pt) (k : Int) (w : World) (h : (pvP x && inB k 0 8) = false) :
    Calls Tryd.prog 27 #[.agg #[.int .i64 x.s, .int .i64 x.a, .int .i64 x.o], .int .i64 k] w (RowOutB 26 3 0 [] false w) := by
  have hO := Own.start w
  have hF := True.intro
  obtain ⟨b1, h1⟩ : ∃ b, pvP x = b := ⟨_, rfl⟩
  obtain ⟨b2, h2⟩ : ∃ b, inB k 0 8 = b := ⟨_, rfl⟩
  have HV := hid (fun W => pvS_is W (show pvB x.s x.a x.o = b1 from h1))
  have HK := hid (fun W => in_is W h2)
  rw [h1, h2] at h
  clear h1 h2
  have hcs : b1 = false ∨ b1 = true ∧ b2 = false := by cases b1 <;> simp_all
  rcases hcs with rfl | ⟨rfl, rfl⟩
  all_goals
    clear h
    go_enter Tryd.func27, Tryd.ntmps27
    go_wp2_with fail
    replace hO := (Own.alloc (t := 26) (vs := [.int .i64 x.s, .int .i64 x.a, .int .i64 x.o]) hO).allocRow (e := 26) (cur := #[]) (k := 0) (cap := 0) 3 (by omega) (by unfold maxLen; omega) rfl
    clear hF
    have hF := hO; (try simp only [Own, Item.Holds, apartI, CellsAt, Nat.reduceAdd, Nat.zero_add, List.mem_cons, List.not_mem_nil, or_false, forall_eq_or_imp, forall_eq, ne_eq, false_imp_iff, implies_true, and_true] at hF)
    go_wp2_with (first | (go_at_call 25; apply own_at hO; (repeat (first | (with_reducible exact hO) | (with_reducible apply Own.alloc) | (with_reducible apply Own.drew) | ((with_reducible apply Own.set_at); (focus (show _ ≤ _; omega))))); have hG := hF; clear hF; clear hO; intro hO; refine own_call hO (fun hB => HV.out _) ?_; clear hO; intro w1 hO; (try simp only [World.size_alloc1, World.size_drew, Nat.reduceAdd] at hO); (try simp only [upd, updI, List.map_cons, List.map_nil, eq_self, if_true, if_false, reduceIte, Nat.add_eq_left, Nat.left_eq_add, Nat.reduceEqDiff, List.set_cons_zero, List.set_cons_succ, hG] at hO); clear hG; have hF := hO; (try simp only [Own, Item.Holds, apartI, CellsAt, Nat.reduceAdd, Nat.zero_add, List.mem_cons, List.not_mem_nil, or_false, forall_eq_or_imp, forall_eq, ne_eq, false_imp_iff, implies_true, and_true] at hF)) | (go_at_call 39; apply own_at hO; (repeat (first | (with_reducible exact hO) | (with_reducible apply Own.alloc) | (with_reducible apply Own.drew) | ((with_reducible apply Own.set_at); (focus (show _ ≤ _; omega))))); have hG := hF; clear hF; clear hO; intro hO; refine own_call hO (fun hB => HK.out _) ?_; clear hO; intro w1 hO; (try simp only [World.size_alloc1, World.size_drew, Nat.reduceAdd] at hO); (try simp only [upd, updI, List.map_cons, List.map_nil, eq_self, if_true, if_false, reduceIte, Nat.add_eq_left, Nat.left_eq_add, Nat.reduceEqDiff, List.set_cons_zero, List.set_cons_succ, hG] at hO); clear hG; have hF := hO; (try simp only [Own, Item.Holds, apartI, CellsAt, Nat.reduceAdd, Nat.zero_add, List.mem_cons, List.not_mem_nil, or_false, forall_eq_or_imp, forall_eq, ne_eq, false_imp_iff, implies_true, and_true] at hF)))
    go_ret2
    exact RowOutB.mk hO

theorem chS_any (x : Pt) (k : Int) (w : World) :
    Calls Tryd.prog 27 #[.agg #[.int .i64 x.s, .int .i64 x.a, .int .i64 x.o], .int .i64 k] w (RowOutB 26 3 (chL x k).length (pcC (chL x k)) (chB x k) w) := by
  cases h : pvP x && inB k 0 8
  · have hb : chB x k = false := by unfold chB; rw [h]; rfl
    rw [hb, chL_no hb]
    exact chS_out x k w h
  · rw [Bool.and_eq_true] at h
    exact chS_in x k w h.1 h.2

/- Chapter 10 in the model: classes of pitches. -/
open Go.RowKit

set_option maxHeartbeats 2000000 in
theorem clS_any (x y : Pt) (w : World) :
    Calls Tryd.prog 29 #[.agg #[.int .i64 x.s, .int .i64 x.a, .int .i64 x.o], .agg #[.int .i64 y.s, .int .i64 y.a, .int .i64 y.o]] w fun e w' => e = .returned (.bool (clB x y)) ∧ Below w.heap.size w w' := by
  have HE := hid (show clB x y = ((x.s == y.s) && (x.a == y.a)) from rfl)
  obtain ⟨b1, h1⟩ : ∃ b, (x.s == y.s) = b := ⟨_, rfl⟩
  obtain ⟨b2, h2⟩ : ∃ b, (x.a == y.a) = b := ⟨_, rfl⟩
  rw [h1, h2] at HE
  cases b1 <;> cases b2
  all_goals
    go_enter Tryd.func29, Tryd.ntmps29
    go_wp2
    go_ret
    exact ⟨by rw [HE.out]; rfl, below2 _ _⟩
theorem clS_is {x y : Pt} {b : Bool} (h : clB x y = b) (w : World) :
    Calls Tryd.prog 29 #[.agg #[.int .i64 x.s, .int .i64 x.a, .int .i64 x.o], .agg #[.int .i64 y.s, .int .i64 y.a, .int .i64 y.o]] w fun e w' => e = .returned (.bool b) ∧ Below w.heap.size w w' := by
  subst h; exact clS_any x y w

theorem has_no {l : List Pt} {y : Pt} {n : Nat} (hn : l.length ≤ n) (h : ∀ (i : Nat) (x : Pt), i < n → l[i]? = some x → clB x y = false) : hasB l y = false := by
  rw [← Bool.not_eq_true, hasB_iff]
  rintro ⟨x, hx, h1, h2⟩
  obtain ⟨i, hi, rfl⟩ := List.getElem_of_mem hx
  have := h i _ (by omega) (List.getElem?_eq_getElem hi)
  rw [← Bool.not_eq_true, clB_iff] at this
  exact this ⟨h1, h2⟩
theorem has_yes {l : List Pt} {x y : Pt} {i : Nat} (hx : l[i]? = some x) (h : clB x y = true) : hasB l y = true :=
  hasB_iff.2 ⟨x, List.mem_of_getElem? hx, clB_iff.1 h⟩

set_option maxRecDepth 8000 in
set_option maxHeartbeats 4000000 in
theorem hasS_any (va : Value) (l : List Pt) (y : Pt) (w : World) (hs : SlAt w va l.length 3 (pcC l)) (hn : l.length ≤ 1048576) :
    Calls Tryd.prog 28 #[va, .agg #[.int .i64 y.s, .int .i64 y.a, .int .i64 y.o]] w fun e w' => e = .returned (.bool (hasB l y)) ∧ Below w.heap.size w w' := by
  have hO := Own.start w
  have hF := True.intro
  obtain ⟨A, c, rfl, nb, hA⟩ := hs.open
  have HA := hid hs
  clear hs
  obtain ⟨n, hnl⟩ : ∃ n, l.length = n := ⟨_, rfl⟩
  have HN := hid hnl
  rw [hnl] at hn nb hA HA ⊢
  clear hnl
  go_enter Tryd.func28, Tryd.ntmps28
  go_wp2_with fail
  (apply own_code hO; (repeat (first | (with_reducible exact hO) | (with_reducible apply Own.alloc) | (with_reducible apply Own.drew) | ((with_reducible apply Own.set_at); (focus (show _ ≤ _; omega))))); have hG := hF; clear hF; clear hO; intro hO; (try simp only [World.size_alloc1, World.size_drew, Nat.reduceAdd] at hO); (try simp only [upd, updI, List.map_cons, List.map_nil, eq_self, if_true, if_false, reduceIte, Nat.add_eq_left, Nat.left_eq_add, Nat.reduceEqDiff, List.set_cons_zero, List.set_cons_succ, hG] at hO); clear hG; have hF := hO; (try simp only [Own, Item.Holds, apartI, CellsAt, Nat.reduceAdd, Nat.zero_add, List.mem_cons, List.not_mem_nil, or_false, forall_eq_or_imp, forall_eq, ne_eq, false_imp_iff, implies_true, and_true] at hF))
  go_loopw [5] (fun t wr => ∃ j : Nat, j ≤ n ∧ t = .int .i64 j ∧ Hid (∀ (i : Nat) (x : Pt), i < j → l[i]? = some x → clB x y = false) ∧ Own w.heap.size (Below w.heap.size w) wr [.blk w.heap.size [.int .i64 y.s, .int .i64 y.a, .int .i64 y.o]]) (fun t _ => n - (intOf t).toNat)
  case atStart => exact ⟨0, by omega, rfl, fun i x h => by omega, hO⟩
  case round =>
    clear hO hF
    obtain ⟨j, hj, rfl, hno, hO⟩ := hrel
    have hF := hO; (try simp only [Own, Item.Holds, apartI, CellsAt, Nat.reduceAdd, Nat.zero_add, List.mem_cons, List.not_mem_nil, or_false, forall_eq_or_imp, forall_eq, ne_eq, false_imp_iff, implies_true, and_true] at hF)
    by_cases he : j = n
    · subst he
      have HE := hid (show hasB l y = false from has_no (by rw [HN.out]; exact Nat.le_refl _) hno.out)
      go_wp2_with fail
      go_ret
      exact ⟨ret_bool HE.out.symm, hO.base⟩
    · have hlt : j < n := by omega
      have hlt2 : (j : Int) < n := by omega
      obtain ⟨b, off, rfl, hc1, hc2, hb⟩ := hA (by omega)
      obtain ⟨x, hx⟩ : ∃ x, l[j]? = some x := ⟨_, List.getElem?_eq_getElem (by have := HN.out; omega)⟩
      have HX := hid hx
      obtain ⟨d, hd⟩ : ∃ b, clB x y = b := ⟨_, rfl⟩
      have HC := hid (fun W => clS_is hd W)
      clear he hx
      cases d
      · have HE := hid (show ∀ (i : Nat) (z : Pt), i < j + 1 → l[i]? = some z → clB z y = false from fun i z hi hz => by
          rcases (show i < j ∨ i = j by omega) with h | rfl
          · exact hno.out i z h hz
          · rw [HX.out] at hz; cases hz; exact hd)
        clear hd
        go_wp2_with fail
        apply own_code hO
        (repeat (first | (with_reducible exact hO) | (with_reducible apply Own.alloc) | (with_reducible apply Own.drew) | ((with_reducible apply Own.set_at); (focus (show _ ≤ _; omega)))))
        have hG := hF; clear hF; clear hO; intro hO
        (try simp only [World.size_alloc1, World.size_drew, Nat.reduceAdd] at hO); (try simp only [upd, updI, List.map_cons, List.map_nil, eq_self, if_true, if_false, reduceIte, Nat.add_eq_left, Nat.left_eq_add, Nat.reduceEqDiff, List.set_cons_zero, List.set_cons_succ, hG] at hO); clear hG
        refine region_own (X := fun _ => True) [] (by kernel_rfl) (hO) (trivial) (by first | exact XStab.true | exact XStab.rd | exact XStab.rdIf) ?_
        clear hO
        refine Sim.takeP (i := 0) (d := some 12) (v := ?_) rfl rfl (by kernel_rfl) (by kernel_rfl) (by kernel_rfl) (fun _ _ _ h => h) (by first | exact XStab.true | exact XStab.rd | exact XStab.rdIf) ?_ ?_
        rotate_left
        · first | refine Or.inl ⟨by rfl, fun w => ?_⟩ | (refine Or.inr ⟨by rfl, ?_⟩; with_reducible rfl)
          first | done | (go_simp; all_goals with_reducible rfl)
        try simp only [Act.put, List.setIfInBounds_toArray, List.set_cons_zero, List.set_cons_succ]
        refine Sim.takeP (i := 1) (d := some 13) (v := ?_) rfl rfl (by kernel_rfl) (by kernel_rfl) (by kernel_rfl) (fun _ _ _ h => h) (by first | exact XStab.true | exact XStab.rd | exact XStab.rdIf) ?_ ?_
        rotate_left
        · first | refine Or.inl ⟨by rfl, fun w => ?_⟩ | (refine Or.inr ⟨by rfl, ?_⟩; with_reducible rfl)
          first | done | (go_simp; all_goals with_reducible rfl)
        try simp only [Act.put, List.setIfInBounds_toArray, List.set_cons_zero, List.set_cons_succ]
        refine Sim.takeP (i := 2) (d := some 14) (v := ?_) rfl rfl (by kernel_rfl) (by kernel_rfl) (by kernel_rfl) (fun _ _ _ h => h) (by first | exact XStab.true | exact XStab.rd | exact XStab.rdIf) ?_ ?_
        rotate_left
        · first | refine Or.inl ⟨by rfl, fun w => ?_⟩ | (refine Or.inr ⟨by rfl, ?_⟩; with_reducible rfl)
          first | done | (go_simp; all_goals with_reducible rfl)
        try simp only [Act.put, List.setIfInBounds_toArray, List.set_cons_zero, List.set_cons_succ]
        refine Sim.take (i := 3) (d := some 15) (v := ?_) rfl rfl (by kernel_rfl) (by kernel_rfl) (by kernel_rfl) (by kernel_rfl) (fun _ _ _ h => h) (by first | exact XStab.true | exact XStab.rd | exact XStab.rdIf) ?_ ?_
        rotate_left
        · first | refine Or.inl ⟨by rfl, fun w hO => ?_⟩ | (refine Or.inr ⟨by rfl, ?_⟩; with_reducible rfl)
          first | done | (have hF := hO; (try simp only [Own, Item.Holds, apartI, CellsAt, Nat.reduceAdd, Nat.zero_add, List.mem_cons, List.not_mem_nil, or_false, forall_eq_or_imp, forall_eq, ne_eq, false_imp_iff, implies_true, and_true] at hF); ((have ⟨d0, d1, d2⟩ := ptAt (HA.out.below hO.base) HX.out)); refine Out.same ?_; go_simp; all_goals with_reducible rfl)
        try simp only [Act.put, List.setIfInBounds_toArray, List.set_cons_zero, List.set_cons_succ]
        refine Sim.take (i := 4) (d := some 16) (v := ?_) rfl rfl (by kernel_rfl) (by kernel_rfl) (by kernel_rfl) (by kernel_rfl) (fun _ _ _ h => h) (by first | exact XStab.true | exact XStab.rd | exact XStab.rdIf) ?_ ?_
        rotate_left
        · first | refine Or.inl ⟨by rfl, fun w hO => ?_⟩ | (refine Or.inr ⟨by rfl, ?_⟩; with_reducible rfl)
          first | done | (have hF := hO; (try simp only [Own, Item.Holds, apartI, CellsAt, Nat.reduceAdd, Nat.zero_add, List.mem_cons, List.not_mem_nil, or_false, forall_eq_or_imp, forall_eq, ne_eq, false_imp_iff, implies_true, and_true] at hF); ((have ⟨d0, d1, d2⟩ := ptAt (HA.out.below hO.base) HX.out)); refine Out.same ?_; go_simp; all_goals with_reducible rfl)
        try simp only [Act.put, List.setIfInBounds_toArray, List.set_cons_zero, List.set_cons_succ]
        refine Sim.take (i := 5) (d := some 17) (v := ?_) rfl rfl (by kernel_rfl) (by kernel_rfl) (by kernel_rfl) (by kernel_rfl) (fun _ _ _ h => h) (by first | exact XStab.true | exact XStab.rd | exact XStab.rdIf) ?_ ?_
        rotate_left
        · first | refine Or.inl ⟨by rfl, fun w hO => ?_⟩ | (refine Or.inr ⟨by rfl, ?_⟩; with_reducible rfl)
          first | done | (refine Out.call (f := 29) (args := ?_) ?_ ?_; rotate_left; (focus (go_simp; all_goals with_reducible rfl)); exact HC.out _)
        try simp only [Act.put, List.setIfInBounds_toArray, List.set_cons_zero, List.set_cons_succ]
        refine Sim.done (by kernel_rfl) (fun w1 hO hX => ?_) _
        (try simp only [World.size_alloc1, World.size_drew, Nat.reduceAdd] at hO); (try simp only [upd, updI, List.map_cons, List.map_nil, eq_self, if_true, if_false, reduceIte, Nat.add_eq_left, Nat.left_eq_add, Nat.reduceEqDiff, List.set_cons_zero, List.set_cons_succ] at hO)
        have hF := hO; (try simp only [Own, Item.Holds, apartI, CellsAt, Nat.reduceAdd, Nat.zero_add, List.mem_cons, List.not_mem_nil, or_false, forall_eq_or_imp, forall_eq, ne_eq, false_imp_iff, implies_true, and_true] at hF)
        go_wp2
        go_roundw
        case rel => exact ⟨j + 1, by omega, by go_num, HE.out, hO⟩
        case measure => simp [intOf]; omega
      · have HE := hid (show hasB l y = true from has_yes HX.out hd)
        clear hd
        go_wp2_with fail
        apply own_code hO
        (repeat (first | (with_reducible exact hO) | (with_reducible apply Own.alloc) | (with_reducible apply Own.drew) | ((with_reducible apply Own.set_at); (focus (show _ ≤ _; omega)))))
        have hG := hF; clear hF; clear hO; intro hO
        (try simp only [World.size_alloc1, World.size_drew, Nat.reduceAdd] at hO); (try simp only [upd, updI, List.map_cons, List.map_nil, eq_self, if_true, if_false, reduceIte, Nat.add_eq_left, Nat.left_eq_add, Nat.reduceEqDiff, List.set_cons_zero, List.set_cons_succ, hG] at hO); clear hG
        refine region_own (X := fun _ => True) [] (by kernel_rfl) (hO) (trivial) (by first | exact XStab.true | exact XStab.rd | exact XStab.rdIf) ?_
        clear hO
        refine Sim.takeP (i := 0) (d := some 12) (v := ?_) rfl rfl (by kernel_rfl) (by kernel_rfl) (by kernel_rfl) (fun _ _ _ h => h) (by first | exact XStab.true | exact XStab.rd | exact XStab.rdIf) ?_ ?_
        rotate_left
        · first | refine Or.inl ⟨by rfl, fun w => ?_⟩ | (refine Or.inr ⟨by rfl, ?_⟩; with_reducible rfl)
          first | done | (go_simp; all_goals with_reducible rfl)
        try simp only [Act.put, List.setIfInBounds_toArray, List.set_cons_zero, List.set_cons_succ]
        refine Sim.takeP (i := 1) (d := some 13) (v := ?_) rfl rfl (by kernel_rfl) (by kernel_rfl) (by kernel_rfl) (fun _ _ _ h => h) (by first | exact XStab.true | exact XStab.rd | exact XStab.rdIf) ?_ ?_
        rotate_left
        · first | refine Or.inl ⟨by rfl, fun w => ?_⟩ | (refine Or.inr ⟨by rfl, ?_⟩; with_reducible rfl)
          first | done | (go_simp; all_goals with_reducible rfl)
        try simp only [Act.put, List.setIfInBounds_toArray, List.set_cons_zero, List.set_cons_succ]
        refine Sim.takeP (i := 2) (d := some 14) (v := ?_) rfl rfl (by kernel_rfl) (by kernel_rfl) (by kernel_rfl) (fun _ _ _ h => h) (by first | exact XStab.true | exact XStab.rd | exact XStab.rdIf) ?_ ?_
        rotate_left
        · first | refine Or.inl ⟨by rfl, fun w => ?_⟩ | (refine Or.inr ⟨by rfl, ?_⟩; with_reducible rfl)
          first | done | (go_simp; all_goals with_reducible rfl)
        try simp only [Act.put, List.setIfInBounds_toArray, List.set_cons_zero, List.set_cons_succ]
        refine Sim.take (i := 3) (d := some 15) (v := ?_) rfl rfl (by kernel_rfl) (by kernel_rfl) (by kernel_rfl) (by kernel_rfl) (fun _ _ _ h => h) (by first | exact XStab.true | exact XStab.rd | exact XStab.rdIf) ?_ ?_
        rotate_left
        · first | refine Or.inl ⟨by rfl, fun w hO => ?_⟩ | (refine Or.inr ⟨by rfl, ?_⟩; with_reducible rfl)
          first | done | (have hF := hO; (try simp only [Own, Item.Holds, apartI, CellsAt, Nat.reduceAdd, Nat.zero_add, List.mem_cons, List.not_mem_nil, or_false, forall_eq_or_imp, forall_eq, ne_eq, false_imp_iff, implies_true, and_true] at hF); ((have ⟨d0, d1, d2⟩ := ptAt (HA.out.below hO.base) HX.out)); refine Out.same ?_; go_simp; all_goals with_reducible rfl)
        try simp only [Act.put, List.setIfInBounds_toArray, List.set_cons_zero, List.set_cons_succ]
        refine Sim.take (i := 4) (d := some 16) (v := ?_) rfl rfl (by kernel_rfl) (by kernel_rfl) (by kernel_rfl) (by kernel_rfl) (fun _ _ _ h => h) (by first | exact XStab.true | exact XStab.rd | exact XStab.rdIf) ?_ ?_
        rotate_left
        · first | refine Or.inl ⟨by rfl, fun w hO => ?_⟩ | (refine Or.inr ⟨by rfl, ?_⟩; with_reducible rfl)
          first | done | (have hF := hO; (try simp only [Own, Item.Holds, apartI, CellsAt, Nat.reduceAdd, Nat.zero_add, List.mem_cons, List.not_mem_nil, or_false, forall_eq_or_imp, forall_eq, ne_eq, false_imp_iff, implies_true, and_true] at hF); ((have ⟨d0, d1, d2⟩ := ptAt (HA.out.below hO.base) HX.out)); refine Out.same ?_; go_simp; all_goals with_reducible rfl)
        try simp only [Act.put, List.setIfInBounds_toArray, List.set_cons_zero, List.set_cons_succ]
        refine Sim.take (i := 5) (d := some 17) (v := ?_) rfl rfl (by kernel_rfl) (by kernel_rfl) (by kernel_rfl) (by kernel_rfl) (fun _ _ _ h => h) (by first | exact XStab.true | exact XStab.rd | exact XStab.rdIf) ?_ ?_
        rotate_left
        · first | refine Or.inl ⟨by rfl, fun w hO => ?_⟩ | (refine Or.inr ⟨by rfl, ?_⟩; with_reducible rfl)
          first | done | (refine Out.call (f := 29) (args := ?_) ?_ ?_; rotate_left; (focus (go_simp; all_goals with_reducible rfl)); exact HC.out _)
        try simp only [Act.put, List.setIfInBounds_toArray, List.set_cons_zero, List.set_cons_succ]
        refine Sim.done (by kernel_rfl) (fun w1 hO hX => ?_) _
        (try simp only [World.size_alloc1, World.size_drew, Nat.reduceAdd] at hO); (try simp only [upd, updI, List.map_cons, List.map_nil, eq_self, if_true, if_false, reduceIte, Nat.add_eq_left, Nat.left_eq_add, Nat.reduceEqDiff, List.set_cons_zero, List.set_cons_succ] at hO)
        have hF := hO; (try simp only [Own, Item.Holds, apartI, CellsAt, Nat.reduceAdd, Nat.zero_add, List.mem_cons, List.not_mem_nil, or_false, forall_eq_or_imp, forall_eq, ne_eq, false_imp_iff, implies_true, and_true] at hF)
        go_wp2
        go_ret
        exact ⟨ret_bool HE.out.symm, hO.base⟩
theorem hasS_is {va : Value} {l : List Pt} {y : Pt} {m : Nat} {b : Bool} (hm : l.length = m) (hn : m ≤ 1048576) (h : hasB l y = b) (w : World) (hs : SlAt w va m 3 (pcC l)) :
    Calls Tryd.prog 28 #[va, .agg #[.int .i64 y.s, .int .i64 y.a, .int .i64 y.o]] w fun e w' => e = .returned (.bool b) ∧ Below w.heap.size w w' := by
  subst h hm; exact hasS_any va l y w hs hn

/- Chapter 10 in the model: names of chords. -/
open Go.RowKit

/-- What NameChord hands back. -/
def namV : Option Nam → Value
  | none => .tuple #[.agg #[.int .i64 0, .int .i64 0, .int .i64 0], .int .i64 (-1), .int .i64 (-1), .bool false]
  | some m => .tuple #[.agg #[.int .i64 m.r.s, .int .i64 m.r.a, .int .i64 m.r.o], .int .i64 m.k, .int .i64 m.l, .bool true]
theorem keyS_isM {s a o z : Int} (h : keyZ s a o = z) (w : World) : Calls Tryd.prog 26 #[.agg #[.int .i64 s, .int .i64 a, .int .i64 o]] w fun e w' => e = .returned (.int .i64 z) ∧ Below w.heap.size w w' := by
  subst h; exact keyS_any s a o w
def ok1 (l t : List Pt) (b : Bool) (j : Nat) : Bool := b && (l.take j).all (hasB t)
def ok2 (l t : List Pt) (b : Bool) (j : Nat) : Bool := b && ((t.take j).all (hasB l))
theorem ok1_up {l t : List Pt} {b : Bool} {j : Nat} {x : Pt} (hx : l[j]? = some x) : ok1 l t b (j + 1) = (ok1 l t b j && hasB t x) := by
  unfold ok1
  rw [List.take_add_one, hx, List.all_append]
  simp [Bool.and_assoc]
theorem ok2_up {l t : List Pt} {b : Bool} {j : Nat} {x : Pt} (hx : t[j]? = some x) : ok2 l t b (j + 1) = (ok2 l t b j && hasB l x) := by
  unfold ok2
  rw [List.take_add_one, hx, List.all_append]
  simp [Bool.and_assoc]
theorem ok1_all {l t : List Pt} {b : Bool} {n : Nat} (h : l.length = n) : ok1 l t b n = (b && l.all (hasB t)) := by
  unfold ok1; rw [← h, List.take_length]
theorem ok2_all {l t : List Pt} {b : Bool} {n : Nat} (h : t.length = n) : ok2 l t b n = (b && t.all (hasB l)) := by
  unfold ok2; rw [← h, List.take_length]
theorem at_upM {t : List Pt} {y x : Pt} {j : Nat} (hx : t[j]? = some x) : atN t y (j + 1) = if clB x y then (j : Int) else atN t y j := by
  rw [atN]
  have : t.getD j ⟨0, 0, 0⟩ = x := by rw [List.getD_eq_getElem?_getD, hx]; rfl
  rw [this]
theorem low_up {l : List Pt} {k : Nat} {x y : Pt} {a b : Int} (hx : l[k]? = some x) (hy : l[lowN l k]? = some y) (ha : kyP x = a) (hb : kyP y = b) : lowN l (k + 1) = if a < b then k else lowN l k := by
  rw [lowN]
  have e1 : l.getD k ⟨0, 0, 0⟩ = x := by rw [List.getD_eq_getElem?_getD, hx]; rfl
  have e2 : l.getD (lowN l k) ⟨0, 0, 0⟩ = y := by rw [List.getD_eq_getElem?_getD, hy]; rfl
  rw [e1, e2, ha, hb]
theorem kinds_at {k : Nat} (h : k < 9) : kindsL[k]? = some (k : Int) := by
  obtain rfl | rfl | rfl | rfl | rfl | rfl | rfl | rfl | rfl : k = 0 ∨ k = 1 ∨ k = 2 ∨ k = 3 ∨ k = 4 ∨ k = 5 ∨ k = 6 ∨ k = 7 ∨ k = 8 := by omega
  all_goals rfl

theorem name_head {n : Nat} {B : World → Prop} {w : World} {b : Nat} {vs : List Value} {L : List Item} (_h : Own n B w (.blk b vs :: L)) : ∃ q, b = q := ⟨_, rfl⟩

set_option maxRecDepth 20000 in
set_option maxHeartbeats 16000000 in
theorem nmS_any (va : Value) (l : List Pt) (w : World) (hs : SlAt w va l.length 3 (pcC l)) (hn : l.length ≤ 1048576) :
    Calls Tryd.prog 7 #[va] w fun e w' => e = .returned (namV (nmZ l)) ∧ Below w.heap.size w w' := by
  have hO := Own.start w
  have hF := True.intro
  obtain ⟨A, cA, rfl, nb, hA⟩ := hs.open
  have HA := hid hs
  clear hs
  obtain ⟨n, hnl⟩ : ∃ n, l.length = n := ⟨_, rfl⟩
  have HN := hid hnl
  rw [hnl] at hn nb hA HA ⊢
  have HK := hid (show (l.all pvP = false → nmZ l = none) ∧ (12 < n → nmZ l = none) ∧ (l.all pvP = true → n ≤ 12 → nmZ l = (l.drop 0).findSome? (roF l)) from
    ⟨fun h => by unfold nmZ; rw [h]; rfl, fun h => by unfold nmZ; rw [hnl, decide_eq_false (by omega), Bool.and_false]; rfl, fun h h2 => by unfold nmZ; rw [h, hnl, decide_eq_true h2]; rfl⟩)
  clear hnl
  go_enter Tryd.func7, Tryd.ntmps7
  go_wp2_with fail
  (apply own_code hO; (repeat (first | (with_reducible exact hO) | (with_reducible apply Own.alloc) | (with_reducible apply Own.drew) | ((with_reducible apply Own.set_at); (focus (show _ ≤ _; omega))))); have hG := hF; clear hF; clear hO; intro hO; (try simp only [World.size_alloc1, World.size_drew, Nat.reduceAdd] at hO); (try simp only [upd, updI, List.map_cons, List.map_nil, eq_self, if_true, if_false, reduceIte, Nat.add_eq_left, Nat.left_eq_add, Nat.reduceEqDiff, List.set_cons_zero, List.set_cons_succ, hG] at hO); clear hG; have hF := hO; (try simp only [Own, Item.Holds, apartI, CellsAt, Nat.reduceAdd, Nat.zero_add, List.mem_cons, List.not_mem_nil, or_false, forall_eq_or_imp, forall_eq, ne_eq, false_imp_iff, implies_true, and_true] at hF))
  go_loopw [6, 7] (fun s t wr => ∃ k : Nat, k ≤ n ∧ t = .int .i64 k ∧ s = .int .i64 (lowN l k) ∧ Hid (∀ (i : Nat) (x : Pt), i < k → l[i]? = some x → pvP x = true) ∧ Own w.heap.size (Below w.heap.size w) wr [.blk w.heap.size [.int .i64 0, .int .i64 0, .int .i64 0]]) (fun _ t _ => n - (intOf t).toNat)
  case atStart => exact ⟨0, by omega, rfl, rfl, fun i x h => by omega, hO⟩
  case round =>
    clear hO hF
    obtain ⟨k, hk, rfl, rfl, hv, hO⟩ := hrel
    have hF := hO; (try simp only [Own, Item.Holds, apartI, CellsAt, Nat.reduceAdd, Nat.zero_add, List.mem_cons, List.not_mem_nil, or_false, forall_eq_or_imp, forall_eq, ne_eq, false_imp_iff, implies_true, and_true] at hF)
    by_cases he : k = n
    · subst he
      have HV := hid (show l.all pvP = true by
        rw [List.all_eq_true]
        intro x hx
        obtain ⟨i, hi, rfl⟩ := List.getElem_of_mem hx
        exact hv.out i _ (by have := HN.out; omega) (List.getElem?_eq_getElem hi))
      obtain ⟨lo, hlo⟩ : ∃ m, lowN l k = m := ⟨_, rfl⟩
      have HLO := hid (show lowN l l.length = lo by rw [HN.out]; exact hlo)
      have hlt0 : 0 < k → lo < k := fun h => by rw [← hlo]; exact lowN_lt l k h
      rw [hlo]
      clear hlo hv
      by_cases h12 : k ≤ 12
      · have h12' : (k : Int) ≤ 12 := by omega
        have HE := hid (HK.out.2.2 HV.out h12)
        go_wp2_with fail
        go_loopw [8] (fun t wr => ∃ r : Nat, r ≤ k ∧ t = .int .i64 r ∧ Hid (nmZ l = (l.drop r).findSome? (roF l)) ∧ Own w.heap.size (Below w.heap.size w) wr [.blk w.heap.size [.int .i64 0, .int .i64 0, .int .i64 0]]) (fun t _ => k - (intOf t).toNat)
        case atStart => exact ⟨0, by omega, rfl, HE, hO⟩
        case round =>
          clear hO hF HE
          obtain ⟨r, hr, rfl, HE, hO⟩ := hrel
          have hF := hO; (try simp only [Own, Item.Holds, apartI, CellsAt, Nat.reduceAdd, Nat.zero_add, List.mem_cons, List.not_mem_nil, or_false, forall_eq_or_imp, forall_eq, ne_eq, false_imp_iff, implies_true, and_true] at hF)
          by_cases he : r = k
          · subst he
            have HE2 := hid (HE.out.trans (findSome_end (by rw [HN.out]; exact Nat.le_refl _)))
            go_wp2_with fail
            rw [HE2.out]
            apply own_end hO
            (repeat (first | (with_reducible exact hO) | (with_reducible apply Own.alloc) | (with_reducible apply Own.drew) | ((with_reducible apply Own.set_at); (focus (show _ ≤ _; omega)))))
            have hG := hF; clear hF; clear hO; intro hO
            refine own_ret (v := .tuple #[.agg #[.int .i64 0, .int .i64 0, .int .i64 0], .int .i64 (-1), .int .i64 (-1), .bool false]) hO ?_ rfl (fun hO => ⟨rfl, hO.base⟩)
            clear hO; intro w1 hO
            (try simp only [World.size_alloc1, World.size_drew, Nat.reduceAdd] at hO); (try simp only [upd, updI, List.map_cons, List.map_nil, eq_self, if_true, if_false, reduceIte, Nat.add_eq_left, Nat.left_eq_add, Nat.reduceEqDiff, List.set_cons_zero, List.set_cons_succ, hG] at hO); clear hG
            have hF := hO; (try simp only [Own, Item.Holds, apartI, CellsAt, Nat.reduceAdd, Nat.zero_add, List.mem_cons, List.not_mem_nil, or_false, forall_eq_or_imp, forall_eq, ne_eq, false_imp_iff, implies_true, and_true] at hF)
            simp [results, Tryd.results7, go_sem, hF]
          · have hrl : r < k := by omega
            have hrl2 : (r : Int) < k := by omega
            have hlo := hlt0 (by omega)
            have hlo2 : (lo : Int) < k := by omega
            obtain ⟨b, off, rfl, hc1, hc2, hb⟩ := hA (by omega)
            obtain ⟨x, hx⟩ : ∃ x, l[r]? = some x := ⟨_, List.getElem?_eq_getElem (by have := HN.out; omega)⟩
            obtain ⟨y, hy⟩ : ∃ y, l[lo]? = some y := ⟨_, List.getElem?_eq_getElem (by have := HN.out; omega)⟩
            have HX := hid hx
            have HY := hid hy
            have HLY := hid (show l.getD (lowN l l.length) ⟨0, 0, 0⟩ = y by rw [HLO.out]; exact getD_of hy)
            clear he hx hy hlt0
            go_wp2_with fail
            apply own_code hO
            (repeat (first | (with_reducible exact hO) | (with_reducible apply Own.alloc) | (with_reducible apply Own.drew) | ((with_reducible apply Own.set_at); (focus (show _ ≤ _; omega)))))
            have hG := hF; clear hF; clear hO; intro hO
            (try simp only [World.size_alloc1, World.size_drew, Nat.reduceAdd] at hO); (try simp only [upd, updI, List.map_cons, List.map_nil, eq_self, if_true, if_false, reduceIte, Nat.add_eq_left, Nat.left_eq_add, Nat.reduceEqDiff, List.set_cons_zero, List.set_cons_succ, hG] at hO); clear hG
            refine region_own (X := fun _ => True) [12] (by kernel_rfl) (hO) (trivial) (by first | exact XStab.true | exact XStab.rd | exact XStab.rdIf) ?_
            clear hO
            refine Sim.takeP (i := 0) (d := some 52) (v := ?_) rfl rfl (by kernel_rfl) (by kernel_rfl) (by kernel_rfl) (fun _ _ _ h => h) (by first | exact XStab.true | exact XStab.rd | exact XStab.rdIf) ?_ ?_
            rotate_left
            · first | refine Or.inl ⟨by rfl, fun w => ?_⟩ | (refine Or.inr ⟨by rfl, ?_⟩; with_reducible rfl)
              first | done | (go_simp; all_goals with_reducible rfl)
            try simp only [Act.put, List.setIfInBounds_toArray, List.set_cons_zero, List.set_cons_succ]
            refine Sim.takeP (i := 1) (d := some 53) (v := ?_) rfl rfl (by kernel_rfl) (by kernel_rfl) (by kernel_rfl) (fun _ _ _ h => h) (by first | exact XStab.true | exact XStab.rd | exact XStab.rdIf) ?_ ?_
            rotate_left
            · first | refine Or.inl ⟨by rfl, fun w => ?_⟩ | (refine Or.inr ⟨by rfl, ?_⟩; with_reducible rfl)
              first | done | (go_simp; all_goals with_reducible rfl)
            try simp only [Act.put, List.setIfInBounds_toArray, List.set_cons_zero, List.set_cons_succ]
            refine Sim.takeP (i := 2) (d := some 54) (v := ?_) rfl rfl (by kernel_rfl) (by kernel_rfl) (by kernel_rfl) (fun _ _ _ h => h) (by first | exact XStab.true | exact XStab.rd | exact XStab.rdIf) ?_ ?_
            rotate_left
            · first | refine Or.inl ⟨by rfl, fun w => ?_⟩ | (refine Or.inr ⟨by rfl, ?_⟩; with_reducible rfl)
              first | done | (go_simp; all_goals with_reducible rfl)
            try simp only [Act.put, List.setIfInBounds_toArray, List.set_cons_zero, List.set_cons_succ]
            refine Sim.takeP (i := 3) (d := some 55) (v := ?_) rfl rfl (by kernel_rfl) (by kernel_rfl) (by kernel_rfl) (fun _ _ _ h => h) (by first | exact XStab.true | exact XStab.rd | exact XStab.rdIf) ?_ ?_
            rotate_left
            · first | refine Or.inl ⟨by rfl, fun w => ?_⟩ | (refine Or.inr ⟨by rfl, ?_⟩; with_reducible rfl)
              first | done | (go_simp; all_goals with_reducible rfl)
            try simp only [Act.put, List.setIfInBounds_toArray, List.set_cons_zero, List.set_cons_succ]
            refine Sim.take (i := 4) (d := some 56) (v := ?_) rfl rfl (by kernel_rfl) (by kernel_rfl) (by kernel_rfl) (by kernel_rfl) (fun _ _ _ h => h) (by first | exact XStab.true | exact XStab.rd | exact XStab.rdIf) ?_ ?_
            rotate_left
            · first | refine Or.inl ⟨by rfl, fun w hO => ?_⟩ | (refine Or.inr ⟨by rfl, ?_⟩; with_reducible rfl)
              first | done | (have hF := hO; (try simp only [Own, Item.Holds, apartI, CellsAt, Nat.reduceAdd, Nat.zero_add, List.mem_cons, List.not_mem_nil, or_false, forall_eq_or_imp, forall_eq, ne_eq, false_imp_iff, implies_true, and_true] at hF); ((have ⟨d0, d1, d2⟩ := ptAt (HA.out.below hO.base) HX.out)); refine Out.same ?_; go_simp; all_goals with_reducible rfl)
            try simp only [Act.put, List.setIfInBounds_toArray, List.set_cons_zero, List.set_cons_succ]
            refine Sim.takeP (i := 5) (d := some 57) (v := ?_) rfl rfl (by kernel_rfl) (by kernel_rfl) (by kernel_rfl) (fun _ _ _ h => h) (by first | exact XStab.true | exact XStab.rd | exact XStab.rdIf) ?_ ?_
            rotate_left
            · first | refine Or.inl ⟨by rfl, fun w => ?_⟩ | (refine Or.inr ⟨by rfl, ?_⟩; with_reducible rfl)
              first | done | (go_simp; all_goals with_reducible rfl)
            try simp only [Act.put, List.setIfInBounds_toArray, List.set_cons_zero, List.set_cons_succ]
            refine Sim.takeP (i := 6) (d := some 58) (v := ?_) rfl rfl (by kernel_rfl) (by kernel_rfl) (by kernel_rfl) (fun _ _ _ h => h) (by first | exact XStab.true | exact XStab.rd | exact XStab.rdIf) ?_ ?_
            rotate_left
            · first | refine Or.inl ⟨by rfl, fun w => ?_⟩ | (refine Or.inr ⟨by rfl, ?_⟩; with_reducible rfl)
              first | done | (go_simp; all_goals with_reducible rfl)
            try simp only [Act.put, List.setIfInBounds_toArray, List.set_cons_zero, List.set_cons_succ]
            refine Sim.takeP (i := 7) (d := some 59) (v := ?_) rfl rfl (by kernel_rfl) (by kernel_rfl) (by kernel_rfl) (fun _ _ _ h => h) (by first | exact XStab.true | exact XStab.rd | exact XStab.rdIf) ?_ ?_
            rotate_left
            · first | refine Or.inl ⟨by rfl, fun w => ?_⟩ | (refine Or.inr ⟨by rfl, ?_⟩; with_reducible rfl)
              first | done | (go_simp; all_goals with_reducible rfl)
            try simp only [Act.put, List.setIfInBounds_toArray, List.set_cons_zero, List.set_cons_succ]
            refine Sim.takeP (i := 8) (d := some 60) (v := ?_) rfl rfl (by kernel_rfl) (by kernel_rfl) (by kernel_rfl) (fun _ _ _ h => h) (by first | exact XStab.true | exact XStab.rd | exact XStab.rdIf) ?_ ?_
            rotate_left
            · first | refine Or.inl ⟨by rfl, fun w => ?_⟩ | (refine Or.inr ⟨by rfl, ?_⟩; with_reducible rfl)
              first | done | (go_simp; all_goals with_reducible rfl)
            try simp only [Act.put, List.setIfInBounds_toArray, List.set_cons_zero, List.set_cons_succ]
            refine Sim.take (i := 9) (d := some 61) (v := ?_) rfl rfl (by kernel_rfl) (by kernel_rfl) (by kernel_rfl) (by kernel_rfl) (fun _ _ _ h => h) (by first | exact XStab.true | exact XStab.rd | exact XStab.rdIf) ?_ ?_
            rotate_left
            · first | refine Or.inl ⟨by rfl, fun w hO => ?_⟩ | (refine Or.inr ⟨by rfl, ?_⟩; with_reducible rfl)
              first | done | (have hF := hO; (try simp only [Own, Item.Holds, apartI, CellsAt, Nat.reduceAdd, Nat.zero_add, List.mem_cons, List.not_mem_nil, or_false, forall_eq_or_imp, forall_eq, ne_eq, false_imp_iff, implies_true, and_true] at hF); ((have ⟨d0, d1, d2⟩ := ptAt (HA.out.below hO.base) HX.out)); refine Out.same ?_; go_simp; all_goals with_reducible rfl)
            try simp only [Act.put, List.setIfInBounds_toArray, List.set_cons_zero, List.set_cons_succ]
            refine Sim.takeP (i := 10) (d := some 62) (v := ?_) rfl rfl (by kernel_rfl) (by kernel_rfl) (by kernel_rfl) (fun _ _ _ h => h) (by first | exact XStab.true | exact XStab.rd | exact XStab.rdIf) ?_ ?_
            rotate_left
            · first | refine Or.inl ⟨by rfl, fun w => ?_⟩ | (refine Or.inr ⟨by rfl, ?_⟩; with_reducible rfl)
              first | done | (go_simp; all_goals with_reducible rfl)
            try simp only [Act.put, List.setIfInBounds_toArray, List.set_cons_zero, List.set_cons_succ]
            refine Sim.one' (i := 11) (oi := { dst := some 9, op := Op.alloc 26, type := 0, pos := "l10_chords.go:61", after := #[], guard := none }) (by kernel_rfl) rfl (by rfl) (fun w0 hO hX K hK => ?_)
            have hF := hO; (try simp only [Own, Item.Holds, apartI, CellsAt, Nat.reduceAdd, Nat.zero_add, List.mem_cons, List.not_mem_nil, or_false, forall_eq_or_imp, forall_eq, ne_eq, false_imp_iff, implies_true, and_true] at hF)
            go_simp
            apply hK _ _ _ (fun _ => True)
            (repeat (first | (with_reducible exact hO) | (with_reducible apply Own.alloc) | (with_reducible apply Own.drew) | ((with_reducible apply Own.set_at); (focus (show _ ≤ _; omega)))))
            · first | exact trivial | exact hX | exact hX.below (below1 _) | exact RdIf.gone | exact hX.keep ((Below.refl _ _).setCell (by first | omega | (dsimp only; omega)) _)
            · exact (by first | exact XStab.true | exact XStab.rd | exact XStab.rdIf)
            · first | exact fun _ _ h => h.2 | exact fun _ _ h => h | exact fun h => absurd h (by decide)
            try simp only [upd, updI, List.map_cons, List.map_nil, eq_self, if_true, if_false, reduceIte, Nat.add_eq_left, Nat.left_eq_add, Nat.reduceEqDiff, List.set_cons_zero, List.set_cons_succ, hF]
            clear hK K hF hO
            try simp only [Act.put, List.setIfInBounds_toArray, List.set_cons_zero, List.set_cons_succ]
            refine Sim.one' (i := 12) (oi := { dst := none, op := Op.store 26 (Operand.tmp 9) (Operand.tmp 62), type := 0, pos := "l10_chords.go:61", after := #[{ on := 11, ground := Ground.data }, { on := 10, ground := Ground.data }, { on := 0, ground := Ground.phase }, { on := 1, ground := Ground.phase }, { on := 2, ground := Ground.phase }, { on := 3, ground := Ground.phase }, { on := 4, ground := Ground.phase }, { on := 5, ground := Ground.phase }, { on := 6, ground := Ground.phase }, { on := 7, ground := Ground.phase }, { on := 8, ground := Ground.phase }, { on := 9, ground := Ground.phase }, { on := 10, ground := Ground.phase }, { on := 11, ground := Ground.phase }], guard := none }) (by kernel_rfl) rfl (by rfl) (fun w0 hO hX K hK => ?_)
            have hF := hO; (try simp only [Own, Item.Holds, apartI, CellsAt, Nat.reduceAdd, Nat.zero_add, List.mem_cons, List.not_mem_nil, or_false, forall_eq_or_imp, forall_eq, ne_eq, false_imp_iff, implies_true, and_true] at hF); ((have ⟨d0, d1, d2⟩ := ptAt (HA.out.below hO.base) HX.out))
            go_simp
            apply hK _ _ _ (fun _ => True)
            (repeat (first | (with_reducible exact hO) | (with_reducible apply Own.alloc) | (with_reducible apply Own.drew) | ((with_reducible apply Own.set_at); (focus (show _ ≤ _; omega)))))
            · first | exact trivial | exact hX | exact hX.below (below1 _) | exact RdIf.gone | exact hX.keep ((Below.refl _ _).setCell (by first | omega | (dsimp only; omega)) _)
            · exact (by first | exact XStab.true | exact XStab.rd | exact XStab.rdIf)
            · first | exact fun _ _ h => h.2 | exact fun _ _ h => h | exact fun h => absurd h (by decide)
            try simp only [upd, updI, List.map_cons, List.map_nil, eq_self, if_true, if_false, reduceIte, Nat.add_eq_left, Nat.left_eq_add, Nat.reduceEqDiff, List.set_cons_zero, List.set_cons_succ, hF]
            clear hK K hF hO
            try simp only [Act.put, List.setIfInBounds_toArray, List.set_cons_zero, List.set_cons_succ]
            refine Sim.done (by kernel_rfl) (fun w1 hO hX => ?_) _
            (try simp only [World.size_alloc1, World.size_drew, Nat.reduceAdd] at hO); (try simp only [upd, updI, List.map_cons, List.map_nil, eq_self, if_true, if_false, reduceIte, Nat.add_eq_left, Nat.left_eq_add, Nat.reduceEqDiff, List.set_cons_zero, List.set_cons_succ] at hO)
            have hF := hO; (try simp only [Own, Item.Holds, apartI, CellsAt, Nat.reduceAdd, Nat.zero_add, List.mem_cons, List.not_mem_nil, or_false, forall_eq_or_imp, forall_eq, ne_eq, false_imp_iff, implies_true, and_true] at hF)
            all_goals
              obtain ⟨q9, hq9⟩ := name_head hO
              rw [hq9] at hO ⊢
              clear hF hq9
              have hF := hO; (try simp only [Own, Item.Holds, apartI, CellsAt, Nat.reduceAdd, Nat.zero_add, List.mem_cons, List.not_mem_nil, or_false, forall_eq_or_imp, forall_eq, ne_eq, false_imp_iff, implies_true, and_true] at hF)
              go_wp2_with fail
              go_loopw [10] (fun t wr => ∃ c : Nat, c ≤ 9 ∧ t = .int .i64 c ∧ Hid (roF l x = (kindsL.drop c).findSome? (kiF l x)) ∧ Own w.heap.size (Below w.heap.size w) wr [.blk q9 [.int .i64 x.s, .int .i64 x.a, .int .i64 4], .blk w.heap.size [.int .i64 0, .int .i64 0, .int .i64 0]]) (fun t _ => 9 - (intOf t).toNat)
              case atStart => exact ⟨0, by omega, rfl, rfl, hO⟩
              case round =>
                clear hO hF
                obtain ⟨c, hc, rfl, HR, hO⟩ := hrel
                have hF := hO; (try simp only [Own, Item.Holds, apartI, CellsAt, Nat.reduceAdd, Nat.zero_add, List.mem_cons, List.not_mem_nil, or_false, forall_eq_or_imp, forall_eq, ne_eq, false_imp_iff, implies_true, and_true] at hF)
                by_cases he : c = 9
                · subst he
                  have HE2 := hid (HE.out.trans (findSome_miss HX.out (HR.out.trans rfl)))
                  go_wp2_with fail
                  go_roundw
                  case rel => exact ⟨r + 1, by omega, by go_num, HE2.out, Own.drop hO⟩
                  case measure => simp [intOf]; omega
                · have hcl : c < 9 := by omega
                  have hcl2 : (c : Int) ≤ 8 := by omega
                  have HC0 := hid (kinds_at hcl)
                  obtain ⟨T, hT⟩ : ∃ T, chL (r4 x) c = T := ⟨_, rfl⟩
                  obtain ⟨B, hB0⟩ : ∃ B, chB (r4 x) c = B := ⟨_, rfl⟩
                  obtain ⟨m, hm⟩ : ∃ m, T.length = m := ⟨_, rfl⟩
                  have hm4 : m ≤ 4 := by rw [← hm, ← hT]; exact chL_len _ _
                  have HC := hid (show ∀ W, Calls Tryd.prog 27 #[.agg #[.int .i64 x.s, .int .i64 x.a, .int .i64 4], .int .i64 c] W (RowOutB 26 3 m (pcC T) B W) from fun W => by
                    have := chS_any (r4 x) c W
                    rw [hT, hB0, hm] at this
                    exact this)
                  have HM := hid hm
                  have HT := hid hT
                  have HB0 := hid hB0
                  clear he hT hB0 hm
                  go_wp2_with ((go_at_call 27; apply own_at hO; (repeat (first | (with_reducible exact hO) | (with_reducible apply Own.alloc) | (with_reducible apply Own.drew) | ((with_reducible apply Own.set_at); (focus (show _ ≤ _; omega))))); have hG := hF; clear hF; clear hO; intro hO; refine own_call_rowB hO (fun hB => HC.out _) ?_; clear hO; intro v w1 hO; (try simp only [World.size_alloc1, World.size_drew, Nat.reduceAdd] at hO); (try simp only [upd, updI, List.map_cons, List.map_nil, eq_self, if_true, if_false, reduceIte, Nat.add_eq_left, Nat.left_eq_add, Nat.reduceEqDiff, List.set_cons_zero, List.set_cons_succ, hG] at hO); clear hG; have hF := hO; (try simp only [Own, Item.Holds, apartI, CellsAt, Nat.reduceAdd, Nat.zero_add, List.mem_cons, List.not_mem_nil, or_false, forall_eq_or_imp, forall_eq, ne_eq, false_imp_iff, implies_true, and_true] at hF)); obtain ⟨A1, c1, hv1⟩ := (SlAt.of_row hO.1.1).form; subst hv1)
                  go_loopw [12, 13] (fun o t wr => ∃ j : Nat, j ≤ k ∧ t = .int .i64 j ∧ o = .bool (ok1 l T B j) ∧ Own w.heap.size (Below w.heap.size w) wr [.row 26 3 (.slice A1 m c1) m (pcC T), .blk q9 [.int .i64 x.s, .int .i64 x.a, .int .i64 4], .blk w.heap.size [.int .i64 0, .int .i64 0, .int .i64 0]]) (fun _ t _ => k - (intOf t).toNat)
                  case atStart => exact ⟨0, by omega, rfl, by unfold ok1; simp, hO⟩
                  case round =>
                    clear hO hF
                    obtain ⟨j, hj, rfl, rfl, hO⟩ := hrel
                    have hF := hO; (try simp only [Own, Item.Holds, apartI, CellsAt, Nat.reduceAdd, Nat.zero_add, List.mem_cons, List.not_mem_nil, or_false, forall_eq_or_imp, forall_eq, ne_eq, false_imp_iff, implies_true, and_true] at hF)
                    by_cases he : j = k
                    · subst he
                      obtain ⟨B1, hB1⟩ : ∃ b, ok1 l T B j = b := ⟨_, rfl⟩
                      have HB1 := hid (show (B && l.all (hasB T)) = B1 by rw [← hB1]; exact (ok1_all HN.out).symm)
                      rw [hB1]
                      clear hB1
                      go_wp2_with fail
                      go_loopw [12, 14, 15] (fun o a t wr => ∃ i : Nat, i ≤ m ∧ t = .int .i64 i ∧ a = .int .i64 (atN T y i) ∧ o = .bool (ok2 l T B1 i) ∧ Own w.heap.size (Below w.heap.size w) wr [.row 26 3 (.slice A1 m c1) m (pcC T), .blk q9 [.int .i64 x.s, .int .i64 x.a, .int .i64 4], .blk w.heap.size [.int .i64 0, .int .i64 0, .int .i64 0]]) (fun _ _ t _ => m - (intOf t).toNat)
                      case atStart => exact ⟨0, by omega, rfl, rfl, by unfold ok2; simp, hO⟩
                      case round =>
                        clear hO hF
                        obtain ⟨i, hi, rfl, rfl, rfl, hO⟩ := hrel
                        have hF := hO; (try simp only [Own, Item.Holds, apartI, CellsAt, Nat.reduceAdd, Nat.zero_add, List.mem_cons, List.not_mem_nil, or_false, forall_eq_or_imp, forall_eq, ne_eq, false_imp_iff, implies_true, and_true] at hF)
                        by_cases he : i = m
                        · subst he
                          obtain ⟨B2, hB2⟩ : ∃ b, ok2 l T B1 i = b := ⟨_, rfl⟩
                          obtain ⟨at9, hat⟩ : ∃ z, atN T y i = z := ⟨_, rfl⟩
                          have HOK := hid (show okB l x c = B2 by rw [← hB2, ok2_all HM.out, ← HB1.out]; unfold okB; rw [HT.out, HB0.out, Bool.and_assoc])
                          have HAT := hid (show atZ T y = at9 by unfold atZ; rw [HM.out]; exact hat)
                          rw [hB2, hat]
                          clear hB2 hat
                          cases B2
                          · have HR2 := hid (HR.out.trans (findSome_miss HC0.out (show kiF l x c = none by unfold kiF; rw [HOK.out]; rfl)))
                            go_wp2_with fail
                            go_roundw
                            case rel => exact ⟨c + 1, by omega, by go_num, HR2.out, Own.drop hO⟩
                            case measure => simp [intOf]; omega
                          · have HR2 := hid (HE.out.trans (findSome_hit HX.out (HR.out.trans (findSome_hit HC0.out (show kiF l x c = some ⟨r4 x, c, at9⟩ by unfold kiF; rw [HOK.out, if_pos rfl, HT.out, HLY.out, HAT.out])))))
                            go_wp2_with fail
                            rw [HR2.out]
                            apply own_end hO
                            (repeat (first | (with_reducible exact hO) | (with_reducible apply Own.alloc) | (with_reducible apply Own.drew) | ((with_reducible apply Own.set_at); (focus (show _ ≤ _; omega)))))
                            have hG := hF; clear hF; clear hO; intro hO
                            refine own_ret (v := .tuple #[.agg #[.int .i64 x.s, .int .i64 x.a, .int .i64 4], .int .i64 c, .int .i64 at9, .bool true]) hO ?_ rfl (fun hO => ⟨rfl, hO.base⟩)
                            clear hO; intro w1 hO
                            (try simp only [World.size_alloc1, World.size_drew, Nat.reduceAdd] at hO); (try simp only [upd, updI, List.map_cons, List.map_nil, eq_self, if_true, if_false, reduceIte, Nat.add_eq_left, Nat.left_eq_add, Nat.reduceEqDiff, List.set_cons_zero, List.set_cons_succ, hG] at hO); clear hG
                            have hF := hO; (try simp only [Own, Item.Holds, apartI, CellsAt, Nat.reduceAdd, Nat.zero_add, List.mem_cons, List.not_mem_nil, or_false, forall_eq_or_imp, forall_eq, ne_eq, false_imp_iff, implies_true, and_true] at hF)
                            simp [results, Tryd.results7, go_sem, hF]
                        · have hil : i < m := by omega
                          have hil2 : (i : Int) < m := by omega
                          obtain ⟨t, ht⟩ : ∃ t, T[i]? = some t := ⟨_, List.getElem?_eq_getElem (by have := HM.out; omega)⟩
                          obtain ⟨q, cp, hv1, hq1, hq2⟩ := hO.row_open (by omega)
                          cases hv1
                          clear hq1 hq2
                          have HTX := hid ht
                          have HU := hid (ok2_up (l := l) (b := B1) ht)
                          have HUA := hid (at_upM (y := y) ht)
                          have e0 := hO.row_cell (pcC_at ht).1
                          have e1 := hO.row_cell (pcC_at ht).2.1
                          have e2 := hO.row_cell (pcC_at ht).2.2
                          obtain ⟨g, hg⟩ : ∃ b, ok2 l T B1 i = b := ⟨_, rfl⟩
                          obtain ⟨d, hd⟩ : ∃ b, hasB l t = b := ⟨_, rfl⟩
                          obtain ⟨f, hf⟩ : ∃ b, clB t y = b := ⟨_, rfl⟩
                          have HL := hid (fun W (hW : Below w.heap.size w W) => hasS_is HN.out hn hd W (HA.out.below hW))
                          have HCL := hid (fun W => clS_is hf W)
                          obtain ⟨a9, ha9⟩ : ∃ z, atN T y i = z := ⟨_, rfl⟩
                          rw [hg, hd] at HU
                          rw [hf, ha9] at HUA
                          rw [hg, ha9]
                          clear he ht hg hd hf ha9
                          cases g <;> cases f
                          all_goals
                            go_wp2_with (go_at_call 28; apply own_at hO; (repeat (first | (with_reducible exact hO) | (with_reducible apply Own.alloc) | (with_reducible apply Own.drew) | ((with_reducible apply Own.set_at); (focus (show _ ≤ _; omega))))); have hG := hF; clear hF; clear hO; intro hO; refine own_call hO (fun hB => HL.out _ hB) ?_; clear hO; intro w1 hO; (try simp only [World.size_alloc1, World.size_drew, Nat.reduceAdd] at hO); (try simp only [upd, updI, List.map_cons, List.map_nil, eq_self, if_true, if_false, reduceIte, Nat.add_eq_left, Nat.left_eq_add, Nat.reduceEqDiff, List.set_cons_zero, List.set_cons_succ, hG] at hO); clear hG; have hF := hO; (try simp only [Own, Item.Holds, apartI, CellsAt, Nat.reduceAdd, Nat.zero_add, List.mem_cons, List.not_mem_nil, or_false, forall_eq_or_imp, forall_eq, ne_eq, false_imp_iff, implies_true, and_true] at hF))
                            apply own_code hO
                            (repeat (first | (with_reducible exact hO) | (with_reducible apply Own.alloc) | (with_reducible apply Own.drew) | ((with_reducible apply Own.set_at); (focus (show _ ≤ _; omega)))))
                            have hG := hF; clear hF; clear hO; intro hO
                            (try simp only [World.size_alloc1, World.size_drew, Nat.reduceAdd] at hO); (try simp only [upd, updI, List.map_cons, List.map_nil, eq_self, if_true, if_false, reduceIte, Nat.add_eq_left, Nat.left_eq_add, Nat.reduceEqDiff, List.set_cons_zero, List.set_cons_succ, hG] at hO); clear hG
                            refine region_own (X := fun _ => True) [] (by kernel_rfl) (hO) (trivial) (by first | exact XStab.true | exact XStab.rd | exact XStab.rdIf) ?_
                            clear hO
                            refine Sim.takeP (i := 0) (d := some 103) (v := ?_) rfl rfl (by kernel_rfl) (by kernel_rfl) (by kernel_rfl) (fun _ _ _ h => h) (by first | exact XStab.true | exact XStab.rd | exact XStab.rdIf) ?_ ?_
                            rotate_left
                            · first | refine Or.inl ⟨by rfl, fun w => ?_⟩ | (refine Or.inr ⟨by rfl, ?_⟩; with_reducible rfl)
                              first | done | (go_simp; all_goals with_reducible rfl)
                            try simp only [Act.put, List.setIfInBounds_toArray, List.set_cons_zero, List.set_cons_succ]
                            refine Sim.takeP (i := 1) (d := some 104) (v := ?_) rfl rfl (by kernel_rfl) (by kernel_rfl) (by kernel_rfl) (fun _ _ _ h => h) (by first | exact XStab.true | exact XStab.rd | exact XStab.rdIf) ?_ ?_
                            rotate_left
                            · first | refine Or.inl ⟨by rfl, fun w => ?_⟩ | (refine Or.inr ⟨by rfl, ?_⟩; with_reducible rfl)
                              first | done | (go_simp; all_goals with_reducible rfl)
                            try simp only [Act.put, List.setIfInBounds_toArray, List.set_cons_zero, List.set_cons_succ]
                            refine Sim.takeP (i := 2) (d := some 105) (v := ?_) rfl rfl (by kernel_rfl) (by kernel_rfl) (by kernel_rfl) (fun _ _ _ h => h) (by first | exact XStab.true | exact XStab.rd | exact XStab.rdIf) ?_ ?_
                            rotate_left
                            · first | refine Or.inl ⟨by rfl, fun w => ?_⟩ | (refine Or.inr ⟨by rfl, ?_⟩; with_reducible rfl)
                              first | done | (go_simp; all_goals with_reducible rfl)
                            try simp only [Act.put, List.setIfInBounds_toArray, List.set_cons_zero, List.set_cons_succ]
                            refine Sim.take (i := 3) (d := some 106) (v := ?_) rfl rfl (by kernel_rfl) (by kernel_rfl) (by kernel_rfl) (by kernel_rfl) (fun _ _ _ h => h) (by first | exact XStab.true | exact XStab.rd | exact XStab.rdIf) ?_ ?_
                            rotate_left
                            · first | refine Or.inl ⟨by rfl, fun w hO => ?_⟩ | (refine Or.inr ⟨by rfl, ?_⟩; with_reducible rfl)
                              first | done | (have hF := hO; (try simp only [Own, Item.Holds, apartI, CellsAt, Nat.reduceAdd, Nat.zero_add, List.mem_cons, List.not_mem_nil, or_false, forall_eq_or_imp, forall_eq, ne_eq, false_imp_iff, implies_true, and_true] at hF); ((have e0 := hO.row_cell (pcC_at HTX.out).1; have e1 := hO.row_cell (pcC_at HTX.out).2.1; have e2 := hO.row_cell (pcC_at HTX.out).2.2; have ⟨g0, g1, g2⟩ := ptAt (HA.out.below hO.base) HY.out)); refine Out.same ?_; go_simp; all_goals with_reducible rfl)
                            try simp only [Act.put, List.setIfInBounds_toArray, List.set_cons_zero, List.set_cons_succ]
                            refine Sim.takeP (i := 4) (d := some 107) (v := ?_) rfl rfl (by kernel_rfl) (by kernel_rfl) (by kernel_rfl) (fun _ _ _ h => h) (by first | exact XStab.true | exact XStab.rd | exact XStab.rdIf) ?_ ?_
                            rotate_left
                            · first | refine Or.inl ⟨by rfl, fun w => ?_⟩ | (refine Or.inr ⟨by rfl, ?_⟩; with_reducible rfl)
                              first | done | (go_simp; all_goals with_reducible rfl)
                            try simp only [Act.put, List.setIfInBounds_toArray, List.set_cons_zero, List.set_cons_succ]
                            refine Sim.takeP (i := 5) (d := some 108) (v := ?_) rfl rfl (by kernel_rfl) (by kernel_rfl) (by kernel_rfl) (fun _ _ _ h => h) (by first | exact XStab.true | exact XStab.rd | exact XStab.rdIf) ?_ ?_
                            rotate_left
                            · first | refine Or.inl ⟨by rfl, fun w => ?_⟩ | (refine Or.inr ⟨by rfl, ?_⟩; with_reducible rfl)
                              first | done | (go_simp; all_goals with_reducible rfl)
                            try simp only [Act.put, List.setIfInBounds_toArray, List.set_cons_zero, List.set_cons_succ]
                            refine Sim.takeP (i := 6) (d := some 109) (v := ?_) rfl rfl (by kernel_rfl) (by kernel_rfl) (by kernel_rfl) (fun _ _ _ h => h) (by first | exact XStab.true | exact XStab.rd | exact XStab.rdIf) ?_ ?_
                            rotate_left
                            · first | refine Or.inl ⟨by rfl, fun w => ?_⟩ | (refine Or.inr ⟨by rfl, ?_⟩; with_reducible rfl)
                              first | done | (go_simp; all_goals with_reducible rfl)
                            try simp only [Act.put, List.setIfInBounds_toArray, List.set_cons_zero, List.set_cons_succ]
                            refine Sim.take (i := 7) (d := some 110) (v := ?_) rfl rfl (by kernel_rfl) (by kernel_rfl) (by kernel_rfl) (by kernel_rfl) (fun _ _ _ h => h) (by first | exact XStab.true | exact XStab.rd | exact XStab.rdIf) ?_ ?_
                            rotate_left
                            · first | refine Or.inl ⟨by rfl, fun w hO => ?_⟩ | (refine Or.inr ⟨by rfl, ?_⟩; with_reducible rfl)
                              first | done | (have hF := hO; (try simp only [Own, Item.Holds, apartI, CellsAt, Nat.reduceAdd, Nat.zero_add, List.mem_cons, List.not_mem_nil, or_false, forall_eq_or_imp, forall_eq, ne_eq, false_imp_iff, implies_true, and_true] at hF); ((have e0 := hO.row_cell (pcC_at HTX.out).1; have e1 := hO.row_cell (pcC_at HTX.out).2.1; have e2 := hO.row_cell (pcC_at HTX.out).2.2; have ⟨g0, g1, g2⟩ := ptAt (HA.out.below hO.base) HY.out)); refine Out.same ?_; go_simp; all_goals with_reducible rfl)
                            try simp only [Act.put, List.setIfInBounds_toArray, List.set_cons_zero, List.set_cons_succ]
                            refine Sim.take (i := 8) (d := some 111) (v := ?_) rfl rfl (by kernel_rfl) (by kernel_rfl) (by kernel_rfl) (by kernel_rfl) (fun _ _ _ h => h) (by first | exact XStab.true | exact XStab.rd | exact XStab.rdIf) ?_ ?_
                            rotate_left
                            · first | refine Or.inl ⟨by rfl, fun w hO => ?_⟩ | (refine Or.inr ⟨by rfl, ?_⟩; with_reducible rfl)
                              first | done | (refine Out.call (f := 29) (args := ?_) ?_ ?_; rotate_left; (focus (go_simp; all_goals with_reducible rfl)); exact HCL.out _)
                            try simp only [Act.put, List.setIfInBounds_toArray, List.set_cons_zero, List.set_cons_succ]
                            refine Sim.done (by kernel_rfl) (fun w1 hO hX => ?_) _
                            (try simp only [World.size_alloc1, World.size_drew, Nat.reduceAdd] at hO); (try simp only [upd, updI, List.map_cons, List.map_nil, eq_self, if_true, if_false, reduceIte, Nat.add_eq_left, Nat.left_eq_add, Nat.reduceEqDiff, List.set_cons_zero, List.set_cons_succ] at hO)
                            have hF := hO; (try simp only [Own, Item.Holds, apartI, CellsAt, Nat.reduceAdd, Nat.zero_add, List.mem_cons, List.not_mem_nil, or_false, forall_eq_or_imp, forall_eq, ne_eq, false_imp_iff, implies_true, and_true] at hF)
                            all_goals
                              go_wp2
                              go_roundw
                              case rel => exact ⟨i + 1, by omega, by go_num, by rw [HUA.out]; rfl, by rw [HU.out]; rfl, hO⟩
                              case measure => simp [intOf]; omega
                    · have hjl : j < k := by omega
                      have hjl2 : (j : Int) < k := by omega
                      obtain ⟨z, hz⟩ : ∃ z, l[j]? = some z := ⟨_, List.getElem?_eq_getElem (by have := HN.out; omega)⟩
                      obtain ⟨d0, d1, d2⟩ := ptAt (HA.out.below hO.base) hz
                      have HU := hid (ok1_up (t := T) (b := B) hz)
                      obtain ⟨g, hg⟩ : ∃ b, ok1 l T B j = b := ⟨_, rfl⟩
                      obtain ⟨d, hd⟩ : ∃ b, hasB T z = b := ⟨_, rfl⟩
                      have HL := hid (fun va W (hs : SlAt W va m 3 (pcC T)) => hasS_is HM.out (by omega) hd W hs)
                      rw [hg, hd] at HU
                      rw [hg]
                      clear he hz hg hd
                      cases g
                      all_goals
                        go_wp2_with (go_at_call 28; apply own_at hO; (repeat (first | (with_reducible exact hO) | (with_reducible apply Own.alloc) | (with_reducible apply Own.drew) | ((with_reducible apply Own.set_at); (focus (show _ ≤ _; omega))))); have hG := hF; clear hF; clear hO; intro hO; refine own_callO hO (fun hW => HL.out _ _ (SlAt.of_row hW.1.1)) ?_; clear hO; intro w1 hO; (try simp only [World.size_alloc1, World.size_drew, Nat.reduceAdd] at hO); (try simp only [upd, updI, List.map_cons, List.map_nil, eq_self, if_true, if_false, reduceIte, Nat.add_eq_left, Nat.left_eq_add, Nat.reduceEqDiff, List.set_cons_zero, List.set_cons_succ, hG] at hO); clear hG; have hF := hO; (try simp only [Own, Item.Holds, apartI, CellsAt, Nat.reduceAdd, Nat.zero_add, List.mem_cons, List.not_mem_nil, or_false, forall_eq_or_imp, forall_eq, ne_eq, false_imp_iff, implies_true, and_true] at hF))
                        go_roundw
                        case rel => exact ⟨j + 1, by omega, by go_num, by rw [HU.out]; rfl, hO⟩
                        case measure => simp [intOf]; omega
      · have h12' : ¬ (k : Int) ≤ 12 := by omega
        have HE := hid (HK.out.2.1 (by omega))
        have hk0 : (0 : Int) < k := by omega
        go_wp2_with fail
        go_loopw [8] (fun t wr => t = .int .i64 0 ∧ Own w.heap.size (Below w.heap.size w) wr [.blk w.heap.size [.int .i64 0, .int .i64 0, .int .i64 0]]) (fun _ _ => 0)
        case atStart => exact ⟨rfl, hO⟩
        case round =>
          clear hO hF
          obtain ⟨rfl, hO⟩ := hrel
          have hF := hO; (try simp only [Own, Item.Holds, apartI, CellsAt, Nat.reduceAdd, Nat.zero_add, List.mem_cons, List.not_mem_nil, or_false, forall_eq_or_imp, forall_eq, ne_eq, false_imp_iff, implies_true, and_true] at hF)
          go_wp2_with fail
          rw [HE.out]
          apply own_end hO
          (repeat (first | (with_reducible exact hO) | (with_reducible apply Own.alloc) | (with_reducible apply Own.drew) | ((with_reducible apply Own.set_at); (focus (show _ ≤ _; omega)))))
          have hG := hF; clear hF; clear hO; intro hO
          refine own_ret (v := .tuple #[.agg #[.int .i64 0, .int .i64 0, .int .i64 0], .int .i64 (-1), .int .i64 (-1), .bool false]) hO ?_ rfl (fun hO => ⟨rfl, hO.base⟩)
          clear hO; intro w1 hO
          (try simp only [World.size_alloc1, World.size_drew, Nat.reduceAdd] at hO); (try simp only [upd, updI, List.map_cons, List.map_nil, eq_self, if_true, if_false, reduceIte, Nat.add_eq_left, Nat.left_eq_add, Nat.reduceEqDiff, List.set_cons_zero, List.set_cons_succ, hG] at hO); clear hG
          have hF := hO; (try simp only [Own, Item.Holds, apartI, CellsAt, Nat.reduceAdd, Nat.zero_add, List.mem_cons, List.not_mem_nil, or_false, forall_eq_or_imp, forall_eq, ne_eq, false_imp_iff, implies_true, and_true] at hF)
          simp [results, Tryd.results7, go_sem, hF]
    · have hkl : k < n := by omega
      have hkl2 : (k : Int) < n := by omega
      obtain ⟨b, off, rfl, hc1, hc2, hb⟩ := hA (by omega)
      obtain ⟨x, hx⟩ : ∃ x, l[k]? = some x := ⟨_, List.getElem?_eq_getElem (by have := HN.out; omega)⟩
      obtain ⟨m, hm⟩ : ∃ m, lowN l k = m := ⟨_, rfl⟩
      have hml : m < n := by
        by_cases h0 : k = 0
        · subst h0; rw [← hm]; exact hkl
        · have := lowN_lt l k (by omega); omega
      have hml2 : (m : Int) < n := by omega
      obtain ⟨y, hy⟩ : ∃ y, l[m]? = some y := ⟨_, List.getElem?_eq_getElem (by have := HN.out; omega)⟩
      obtain ⟨d0, d1, d2⟩ := ptAt (HA.out.below hO.base) hx
      have HX := hid hx
      have HY := hid hy
      cases hp : pvP x
      · have HE := hid (HK.out.1 (by
          rw [← Bool.not_eq_true, List.all_eq_true]
          intro h
          rw [h x (List.mem_of_getElem? HX.out)] at hp
          cases hp))
        have HV := hid (fun W => pvS_is W (show pvB x.s x.a x.o = false from hp))
        clear he hx hy hp hm
        go_wp2_with (go_at_call 25; apply own_at hO; (repeat (first | (with_reducible exact hO) | (with_reducible apply Own.alloc) | (with_reducible apply Own.drew) | ((with_reducible apply Own.set_at); (focus (show _ ≤ _; omega))))); have hG := hF; clear hF; clear hO; intro hO; refine own_call hO (fun hB => HV.out _) ?_; clear hO; intro w1 hO; (try simp only [World.size_alloc1, World.size_drew, Nat.reduceAdd] at hO); (try simp only [upd, updI, List.map_cons, List.map_nil, eq_self, if_true, if_false, reduceIte, Nat.add_eq_left, Nat.left_eq_add, Nat.reduceEqDiff, List.set_cons_zero, List.set_cons_succ, hG] at hO); clear hG; have hF := hO; (try simp only [Own, Item.Holds, apartI, CellsAt, Nat.reduceAdd, Nat.zero_add, List.mem_cons, List.not_mem_nil, or_false, forall_eq_or_imp, forall_eq, ne_eq, false_imp_iff, implies_true, and_true] at hF))
        rw [HE.out]
        apply own_end hO
        (repeat (first | (with_reducible exact hO) | (with_reducible apply Own.alloc) | (with_reducible apply Own.drew) | ((with_reducible apply Own.set_at); (focus (show _ ≤ _; omega)))))
        have hG := hF; clear hF; clear hO; intro hO
        refine own_ret (v := .tuple #[.agg #[.int .i64 0, .int .i64 0, .int .i64 0], .int .i64 (-1), .int .i64 (-1), .bool false]) hO ?_ rfl (fun hO => ⟨rfl, hO.base⟩)
        clear hO; intro w1 hO
        (try simp only [World.size_alloc1, World.size_drew, Nat.reduceAdd] at hO); (try simp only [upd, updI, List.map_cons, List.map_nil, eq_self, if_true, if_false, reduceIte, Nat.add_eq_left, Nat.left_eq_add, Nat.reduceEqDiff, List.set_cons_zero, List.set_cons_succ, hG] at hO); clear hG
        have hF := hO; (try simp only [Own, Item.Holds, apartI, CellsAt, Nat.reduceAdd, Nat.zero_add, List.mem_cons, List.not_mem_nil, or_false, forall_eq_or_imp, forall_eq, ne_eq, false_imp_iff, implies_true, and_true] at hF)
        simp [results, Tryd.results7, go_sem, hF]
      · have HV := hid (fun W => pvS_is W (show pvB x.s x.a x.o = true from hp))
        have HB := hid (show ∀ (i : Nat) (z : Pt), i < k + 1 → l[i]? = some z → pvP z = true from fun i z hi hz => by
          rcases (show i < k ∨ i = k by omega) with h | rfl
          · exact hv.out i z h hz
          · rw [HX.out] at hz; cases hz; exact hp)
        obtain ⟨z1, hz1⟩ : ∃ z, kyP x = z := ⟨_, rfl⟩
        obtain ⟨z2, hz2⟩ : ∃ z, kyP y = z := ⟨_, rfl⟩
        have HU := hid (low_up hx (by rw [hm]; exact hy) hz1 hz2)
        have HK1 := hid (fun W => keyS_isM (s := x.s) (a := x.a) (o := x.o) hz1 W)
        have HK2 := hid (fun W => keyS_isM (s := y.s) (a := y.a) (o := y.o) hz2 W)
        rw [hm] at HU ⊢
        clear he hx hy hp hm hz1 hz2
        by_cases hc : z1 < z2
        · have HU2 := hid (HU.out.trans (if_pos hc))
          go_wp2_with ((go_at_call 25; apply own_at hO; (repeat (first | (with_reducible exact hO) | (with_reducible apply Own.alloc) | (with_reducible apply Own.drew) | ((with_reducible apply Own.set_at); (focus (show _ ≤ _; omega))))); have hG := hF; clear hF; clear hO; intro hO; refine own_call hO (fun hB => HV.out _) ?_; clear hO; intro w1 hO; (try simp only [World.size_alloc1, World.size_drew, Nat.reduceAdd] at hO); (try simp only [upd, updI, List.map_cons, List.map_nil, eq_self, if_true, if_false, reduceIte, Nat.add_eq_left, Nat.left_eq_add, Nat.reduceEqDiff, List.set_cons_zero, List.set_cons_succ, hG] at hO); clear hG; have hF := hO; (try simp only [Own, Item.Holds, apartI, CellsAt, Nat.reduceAdd, Nat.zero_add, List.mem_cons, List.not_mem_nil, or_false, forall_eq_or_imp, forall_eq, ne_eq, false_imp_iff, implies_true, and_true] at hF)); have ⟨e0, e1, e2⟩ := ptAt (HA.out.below hO.base) HX.out)
          apply own_code hO
          (repeat (first | (with_reducible exact hO) | (with_reducible apply Own.alloc) | (with_reducible apply Own.drew) | ((with_reducible apply Own.set_at); (focus (show _ ≤ _; omega)))))
          have hG := hF; clear hF; clear hO; intro hO
          (try simp only [World.size_alloc1, World.size_drew, Nat.reduceAdd] at hO); (try simp only [upd, updI, List.map_cons, List.map_nil, eq_self, if_true, if_false, reduceIte, Nat.add_eq_left, Nat.left_eq_add, Nat.reduceEqDiff, List.set_cons_zero, List.set_cons_succ, hG] at hO); clear hG
          refine region_own (X := fun _ => True) [] (by kernel_rfl) (hO) (trivial) (by first | exact XStab.true | exact XStab.rd | exact XStab.rdIf) ?_
          clear hO
          refine Sim.takeP (i := 0) (d := some 29) (v := ?_) rfl rfl (by kernel_rfl) (by kernel_rfl) (by kernel_rfl) (fun _ _ _ h => h) (by first | exact XStab.true | exact XStab.rd | exact XStab.rdIf) ?_ ?_
          rotate_left
          · first | refine Or.inl ⟨by rfl, fun w => ?_⟩ | (refine Or.inr ⟨by rfl, ?_⟩; with_reducible rfl)
            first | done | (go_simp; all_goals with_reducible rfl)
          try simp only [Act.put, List.setIfInBounds_toArray, List.set_cons_zero, List.set_cons_succ]
          refine Sim.takeP (i := 1) (d := some 30) (v := ?_) rfl rfl (by kernel_rfl) (by kernel_rfl) (by kernel_rfl) (fun _ _ _ h => h) (by first | exact XStab.true | exact XStab.rd | exact XStab.rdIf) ?_ ?_
          rotate_left
          · first | refine Or.inl ⟨by rfl, fun w => ?_⟩ | (refine Or.inr ⟨by rfl, ?_⟩; with_reducible rfl)
            first | done | (go_simp; all_goals with_reducible rfl)
          try simp only [Act.put, List.setIfInBounds_toArray, List.set_cons_zero, List.set_cons_succ]
          refine Sim.takeP (i := 2) (d := some 31) (v := ?_) rfl rfl (by kernel_rfl) (by kernel_rfl) (by kernel_rfl) (fun _ _ _ h => h) (by first | exact XStab.true | exact XStab.rd | exact XStab.rdIf) ?_ ?_
          rotate_left
          · first | refine Or.inl ⟨by rfl, fun w => ?_⟩ | (refine Or.inr ⟨by rfl, ?_⟩; with_reducible rfl)
            first | done | (go_simp; all_goals with_reducible rfl)
          try simp only [Act.put, List.setIfInBounds_toArray, List.set_cons_zero, List.set_cons_succ]
          refine Sim.take (i := 3) (d := some 32) (v := ?_) rfl rfl (by kernel_rfl) (by kernel_rfl) (by kernel_rfl) (by kernel_rfl) (fun _ _ _ h => h) (by first | exact XStab.true | exact XStab.rd | exact XStab.rdIf) ?_ ?_
          rotate_left
          · first | refine Or.inl ⟨by rfl, fun w hO => ?_⟩ | (refine Or.inr ⟨by rfl, ?_⟩; with_reducible rfl)
            first | done | (have hF := hO; (try simp only [Own, Item.Holds, apartI, CellsAt, Nat.reduceAdd, Nat.zero_add, List.mem_cons, List.not_mem_nil, or_false, forall_eq_or_imp, forall_eq, ne_eq, false_imp_iff, implies_true, and_true] at hF); ((have ⟨d0, d1, d2⟩ := ptAt (HA.out.below hO.base) HX.out; have ⟨g0, g1, g2⟩ := ptAt (HA.out.below hO.base) HY.out)); refine Out.same ?_; go_simp; all_goals with_reducible rfl)
          try simp only [Act.put, List.setIfInBounds_toArray, List.set_cons_zero, List.set_cons_succ]
          refine Sim.take (i := 4) (d := some 33) (v := ?_) rfl rfl (by kernel_rfl) (by kernel_rfl) (by kernel_rfl) (by kernel_rfl) (fun _ _ _ h => h) (by first | exact XStab.true | exact XStab.rd | exact XStab.rdIf) ?_ ?_
          rotate_left
          · first | refine Or.inl ⟨by rfl, fun w hO => ?_⟩ | (refine Or.inr ⟨by rfl, ?_⟩; with_reducible rfl)
            first | done | (refine Out.call (f := 26) (args := ?_) ?_ ?_; rotate_left; (focus (go_simp; all_goals with_reducible rfl)); exact HK1.out _)
          try simp only [Act.put, List.setIfInBounds_toArray, List.set_cons_zero, List.set_cons_succ]
          refine Sim.takeP (i := 5) (d := some 34) (v := ?_) rfl rfl (by kernel_rfl) (by kernel_rfl) (by kernel_rfl) (fun _ _ _ h => h) (by first | exact XStab.true | exact XStab.rd | exact XStab.rdIf) ?_ ?_
          rotate_left
          · first | refine Or.inl ⟨by rfl, fun w => ?_⟩ | (refine Or.inr ⟨by rfl, ?_⟩; with_reducible rfl)
            first | done | (go_simp; all_goals with_reducible rfl)
          try simp only [Act.put, List.setIfInBounds_toArray, List.set_cons_zero, List.set_cons_succ]
          refine Sim.takeP (i := 6) (d := some 35) (v := ?_) rfl rfl (by kernel_rfl) (by kernel_rfl) (by kernel_rfl) (fun _ _ _ h => h) (by first | exact XStab.true | exact XStab.rd | exact XStab.rdIf) ?_ ?_
          rotate_left
          · first | refine Or.inl ⟨by rfl, fun w => ?_⟩ | (refine Or.inr ⟨by rfl, ?_⟩; with_reducible rfl)
            first | done | (go_simp; all_goals with_reducible rfl)
          try simp only [Act.put, List.setIfInBounds_toArray, List.set_cons_zero, List.set_cons_succ]
          refine Sim.takeP (i := 7) (d := some 36) (v := ?_) rfl rfl (by kernel_rfl) (by kernel_rfl) (by kernel_rfl) (fun _ _ _ h => h) (by first | exact XStab.true | exact XStab.rd | exact XStab.rdIf) ?_ ?_
          rotate_left
          · first | refine Or.inl ⟨by rfl, fun w => ?_⟩ | (refine Or.inr ⟨by rfl, ?_⟩; with_reducible rfl)
            first | done | (go_simp; all_goals with_reducible rfl)
          try simp only [Act.put, List.setIfInBounds_toArray, List.set_cons_zero, List.set_cons_succ]
          refine Sim.take (i := 8) (d := some 37) (v := ?_) rfl rfl (by kernel_rfl) (by kernel_rfl) (by kernel_rfl) (by kernel_rfl) (fun _ _ _ h => h) (by first | exact XStab.true | exact XStab.rd | exact XStab.rdIf) ?_ ?_
          rotate_left
          · first | refine Or.inl ⟨by rfl, fun w hO => ?_⟩ | (refine Or.inr ⟨by rfl, ?_⟩; with_reducible rfl)
            first | done | (have hF := hO; (try simp only [Own, Item.Holds, apartI, CellsAt, Nat.reduceAdd, Nat.zero_add, List.mem_cons, List.not_mem_nil, or_false, forall_eq_or_imp, forall_eq, ne_eq, false_imp_iff, implies_true, and_true] at hF); ((have ⟨d0, d1, d2⟩ := ptAt (HA.out.below hO.base) HX.out; have ⟨g0, g1, g2⟩ := ptAt (HA.out.below hO.base) HY.out)); refine Out.same ?_; go_simp; all_goals with_reducible rfl)
          try simp only [Act.put, List.setIfInBounds_toArray, List.set_cons_zero, List.set_cons_succ]
          refine Sim.take (i := 9) (d := some 38) (v := ?_) rfl rfl (by kernel_rfl) (by kernel_rfl) (by kernel_rfl) (by kernel_rfl) (fun _ _ _ h => h) (by first | exact XStab.true | exact XStab.rd | exact XStab.rdIf) ?_ ?_
          rotate_left
          · first | refine Or.inl ⟨by rfl, fun w hO => ?_⟩ | (refine Or.inr ⟨by rfl, ?_⟩; with_reducible rfl)
            first | done | (refine Out.call (f := 26) (args := ?_) ?_ ?_; rotate_left; (focus (go_simp; all_goals with_reducible rfl)); exact HK2.out _)
          try simp only [Act.put, List.setIfInBounds_toArray, List.set_cons_zero, List.set_cons_succ]
          refine Sim.takeP (i := 10) (d := some 39) (v := ?_) rfl rfl (by kernel_rfl) (by kernel_rfl) (by kernel_rfl) (fun _ _ _ h => h) (by first | exact XStab.true | exact XStab.rd | exact XStab.rdIf) ?_ ?_
          rotate_left
          · first | refine Or.inl ⟨by rfl, fun w => ?_⟩ | (refine Or.inr ⟨by rfl, ?_⟩; with_reducible rfl)
            first | done | (go_simp; all_goals with_reducible rfl)
          try simp only [Act.put, List.setIfInBounds_toArray, List.set_cons_zero, List.set_cons_succ]
          refine Sim.done (by kernel_rfl) (fun w1 hO hX => ?_) _
          (try simp only [World.size_alloc1, World.size_drew, Nat.reduceAdd] at hO); (try simp only [upd, updI, List.map_cons, List.map_nil, eq_self, if_true, if_false, reduceIte, Nat.add_eq_left, Nat.left_eq_add, Nat.reduceEqDiff, List.set_cons_zero, List.set_cons_succ] at hO)
          have hF := hO; (try simp only [Own, Item.Holds, apartI, CellsAt, Nat.reduceAdd, Nat.zero_add, List.mem_cons, List.not_mem_nil, or_false, forall_eq_or_imp, forall_eq, ne_eq, false_imp_iff, implies_true, and_true] at hF)
          all_goals
            go_wp2
            go_roundw
            case rel => exact ⟨k + 1, by omega, by go_num, by rw [HU2.out], HB.out, hO⟩
            case measure => simp [intOf]; omega
        · have HU2 := hid (HU.out.trans (if_neg hc))
          go_wp2_with ((go_at_call 25; apply own_at hO; (repeat (first | (with_reducible exact hO) | (with_reducible apply Own.alloc) | (with_reducible apply Own.drew) | ((with_reducible apply Own.set_at); (focus (show _ ≤ _; omega))))); have hG := hF; clear hF; clear hO; intro hO; refine own_call hO (fun hB => HV.out _) ?_; clear hO; intro w1 hO; (try simp only [World.size_alloc1, World.size_drew, Nat.reduceAdd] at hO); (try simp only [upd, updI, List.map_cons, List.map_nil, eq_self, if_true, if_false, reduceIte, Nat.add_eq_left, Nat.left_eq_add, Nat.reduceEqDiff, List.set_cons_zero, List.set_cons_succ, hG] at hO); clear hG; have hF := hO; (try simp only [Own, Item.Holds, apartI, CellsAt, Nat.reduceAdd, Nat.zero_add, List.mem_cons, List.not_mem_nil, or_false, forall_eq_or_imp, forall_eq, ne_eq, false_imp_iff, implies_true, and_true] at hF)); have ⟨e0, e1, e2⟩ := ptAt (HA.out.below hO.base) HX.out)
          apply own_code hO
          (repeat (first | (with_reducible exact hO) | (with_reducible apply Own.alloc) | (with_reducible apply Own.drew) | ((with_reducible apply Own.set_at); (focus (show _ ≤ _; omega)))))
          have hG := hF; clear hF; clear hO; intro hO
          (try simp only [World.size_alloc1, World.size_drew, Nat.reduceAdd] at hO); (try simp only [upd, updI, List.map_cons, List.map_nil, eq_self, if_true, if_false, reduceIte, Nat.add_eq_left, Nat.left_eq_add, Nat.reduceEqDiff, List.set_cons_zero, List.set_cons_succ, hG] at hO); clear hG
          refine region_own (X := fun _ => True) [] (by kernel_rfl) (hO) (trivial) (by first | exact XStab.true | exact XStab.rd | exact XStab.rdIf) ?_
          clear hO
          refine Sim.takeP (i := 0) (d := some 29) (v := ?_) rfl rfl (by kernel_rfl) (by kernel_rfl) (by kernel_rfl) (fun _ _ _ h => h) (by first | exact XStab.true | exact XStab.rd | exact XStab.rdIf) ?_ ?_
          rotate_left
          · first | refine Or.inl ⟨by rfl, fun w => ?_⟩ | (refine Or.inr ⟨by rfl, ?_⟩; with_reducible rfl)
            first | done | (go_simp; all_goals with_reducible rfl)
          try simp only [Act.put, List.setIfInBounds_toArray, List.set_cons_zero, List.set_cons_succ]
          refine Sim.takeP (i := 1) (d := some 30) (v := ?_) rfl rfl (by kernel_rfl) (by kernel_rfl) (by kernel_rfl) (fun _ _ _ h => h) (by first | exact XStab.true | exact XStab.rd | exact XStab.rdIf) ?_ ?_
          rotate_left
          · first | refine Or.inl ⟨by rfl, fun w => ?_⟩ | (refine Or.inr ⟨by rfl, ?_⟩; with_reducible rfl)
            first | done | (go_simp; all_goals with_reducible rfl)
          try simp only [Act.put, List.setIfInBounds_toArray, List.set_cons_zero, List.set_cons_succ]
          refine Sim.takeP (i := 2) (d := some 31) (v := ?_) rfl rfl (by kernel_rfl) (by kernel_rfl) (by kernel_rfl) (fun _ _ _ h => h) (by first | exact XStab.true | exact XStab.rd | exact XStab.rdIf) ?_ ?_
          rotate_left
          · first | refine Or.inl ⟨by rfl, fun w => ?_⟩ | (refine Or.inr ⟨by rfl, ?_⟩; with_reducible rfl)
            first | done | (go_simp; all_goals with_reducible rfl)
          try simp only [Act.put, List.setIfInBounds_toArray, List.set_cons_zero, List.set_cons_succ]
          refine Sim.take (i := 3) (d := some 32) (v := ?_) rfl rfl (by kernel_rfl) (by kernel_rfl) (by kernel_rfl) (by kernel_rfl) (fun _ _ _ h => h) (by first | exact XStab.true | exact XStab.rd | exact XStab.rdIf) ?_ ?_
          rotate_left
          · first | refine Or.inl ⟨by rfl, fun w hO => ?_⟩ | (refine Or.inr ⟨by rfl, ?_⟩; with_reducible rfl)
            first | done | (have hF := hO; (try simp only [Own, Item.Holds, apartI, CellsAt, Nat.reduceAdd, Nat.zero_add, List.mem_cons, List.not_mem_nil, or_false, forall_eq_or_imp, forall_eq, ne_eq, false_imp_iff, implies_true, and_true] at hF); ((have ⟨d0, d1, d2⟩ := ptAt (HA.out.below hO.base) HX.out; have ⟨g0, g1, g2⟩ := ptAt (HA.out.below hO.base) HY.out)); refine Out.same ?_; go_simp; all_goals with_reducible rfl)
          try simp only [Act.put, List.setIfInBounds_toArray, List.set_cons_zero, List.set_cons_succ]
          refine Sim.take (i := 4) (d := some 33) (v := ?_) rfl rfl (by kernel_rfl) (by kernel_rfl) (by kernel_rfl) (by kernel_rfl) (fun _ _ _ h => h) (by first | exact XStab.true | exact XStab.rd | exact XStab.rdIf) ?_ ?_
          rotate_left
          · first | refine Or.inl ⟨by rfl, fun w hO => ?_⟩ | (refine Or.inr ⟨by rfl, ?_⟩; with_reducible rfl)
            first | done | (refine Out.call (f := 26) (args := ?_) ?_ ?_; rotate_left; (focus (go_simp; all_goals with_reducible rfl)); exact HK1.out _)
          try simp only [Act.put, List.setIfInBounds_toArray, List.set_cons_zero, List.set_cons_succ]
          refine Sim.takeP (i := 5) (d := some 34) (v := ?_) rfl rfl (by kernel_rfl) (by kernel_rfl) (by kernel_rfl) (fun _ _ _ h => h) (by first | exact XStab.true | exact XStab.rd | exact XStab.rdIf) ?_ ?_
          rotate_left
          · first | refine Or.inl ⟨by rfl, fun w => ?_⟩ | (refine Or.inr ⟨by rfl, ?_⟩; with_reducible rfl)
            first | done | (go_simp; all_goals with_reducible rfl)
          try simp only [Act.put, List.setIfInBounds_toArray, List.set_cons_zero, List.set_cons_succ]
          refine Sim.takeP (i := 6) (d := some 35) (v := ?_) rfl rfl (by kernel_rfl) (by kernel_rfl) (by kernel_rfl) (fun _ _ _ h => h) (by first | exact XStab.true | exact XStab.rd | exact XStab.rdIf) ?_ ?_
          rotate_left
          · first | refine Or.inl ⟨by rfl, fun w => ?_⟩ | (refine Or.inr ⟨by rfl, ?_⟩; with_reducible rfl)
            first | done | (go_simp; all_goals with_reducible rfl)
          try simp only [Act.put, List.setIfInBounds_toArray, List.set_cons_zero, List.set_cons_succ]
          refine Sim.takeP (i := 7) (d := some 36) (v := ?_) rfl rfl (by kernel_rfl) (by kernel_rfl) (by kernel_rfl) (fun _ _ _ h => h) (by first | exact XStab.true | exact XStab.rd | exact XStab.rdIf) ?_ ?_
          rotate_left
          · first | refine Or.inl ⟨by rfl, fun w => ?_⟩ | (refine Or.inr ⟨by rfl, ?_⟩; with_reducible rfl)
            first | done | (go_simp; all_goals with_reducible rfl)
          try simp only [Act.put, List.setIfInBounds_toArray, List.set_cons_zero, List.set_cons_succ]
          refine Sim.take (i := 8) (d := some 37) (v := ?_) rfl rfl (by kernel_rfl) (by kernel_rfl) (by kernel_rfl) (by kernel_rfl) (fun _ _ _ h => h) (by first | exact XStab.true | exact XStab.rd | exact XStab.rdIf) ?_ ?_
          rotate_left
          · first | refine Or.inl ⟨by rfl, fun w hO => ?_⟩ | (refine Or.inr ⟨by rfl, ?_⟩; with_reducible rfl)
            first | done | (have hF := hO; (try simp only [Own, Item.Holds, apartI, CellsAt, Nat.reduceAdd, Nat.zero_add, List.mem_cons, List.not_mem_nil, or_false, forall_eq_or_imp, forall_eq, ne_eq, false_imp_iff, implies_true, and_true] at hF); ((have ⟨d0, d1, d2⟩ := ptAt (HA.out.below hO.base) HX.out; have ⟨g0, g1, g2⟩ := ptAt (HA.out.below hO.base) HY.out)); refine Out.same ?_; go_simp; all_goals with_reducible rfl)
          try simp only [Act.put, List.setIfInBounds_toArray, List.set_cons_zero, List.set_cons_succ]
          refine Sim.take (i := 9) (d := some 38) (v := ?_) rfl rfl (by kernel_rfl) (by kernel_rfl) (by kernel_rfl) (by kernel_rfl) (fun _ _ _ h => h) (by first | exact XStab.true | exact XStab.rd | exact XStab.rdIf) ?_ ?_
          rotate_left
          · first | refine Or.inl ⟨by rfl, fun w hO => ?_⟩ | (refine Or.inr ⟨by rfl, ?_⟩; with_reducible rfl)
            first | done | (refine Out.call (f := 26) (args := ?_) ?_ ?_; rotate_left; (focus (go_simp; all_goals with_reducible rfl)); exact HK2.out _)
          try simp only [Act.put, List.setIfInBounds_toArray, List.set_cons_zero, List.set_cons_succ]
          refine Sim.takeP (i := 10) (d := some 39) (v := ?_) rfl rfl (by kernel_rfl) (by kernel_rfl) (by kernel_rfl) (fun _ _ _ h => h) (by first | exact XStab.true | exact XStab.rd | exact XStab.rdIf) ?_ ?_
          rotate_left
          · first | refine Or.inl ⟨by rfl, fun w => ?_⟩ | (refine Or.inr ⟨by rfl, ?_⟩; with_reducible rfl)
            first | done | (go_simp; all_goals with_reducible rfl)
          try simp only [Act.put, List.setIfInBounds_toArray, List.set_cons_zero, List.set_cons_succ]
          refine Sim.done (by kernel_rfl) (fun w1 hO hX => ?_) _
          (try simp only [World.size_alloc1, World.size_drew, Nat.reduceAdd] at hO); (try simp only [upd, updI, List.map_cons, List.map_nil, eq_self, if_true, if_false, reduceIte, Nat.add_eq_left, Nat.left_eq_add, Nat.reduceEqDiff, List.set_cons_zero, List.set_cons_succ] at hO)
          have hF := hO; (try simp only [Own, Item.Holds, apartI, CellsAt, Nat.reduceAdd, Nat.zero_add, List.mem_cons, List.not_mem_nil, or_false, forall_eq_or_imp, forall_eq, ne_eq, false_imp_iff, implies_true, and_true] at hF)
          all_goals
            go_wp2
            go_roundw
            case rel => exact ⟨k + 1, by omega, by go_num, by rw [HU2.out], HB.out, hO⟩
            case measure => simp [intOf]; omega

/- Chapter 10 in the model: the classes of keys. -/
open Go.RowKit


theorem keyS_is10 {s a o z : Int} (h : keyZ s a o = z) (w : World) : Calls Tryd.prog 26 #[.agg #[.int .i64 s, .int .i64 a, .int .i64 o]] w fun e w' => e = .returned (.int .i64 z) ∧ Below w.heap.size w w' := by
  subst h; exact keyS_any s a o w

/-- Some one of the first k has the class c. -/
def fdB (l : List Pt) (c : Int) (k : Nat) : Bool := (l.take k).any fun x => cls x == c
theorem fdB_up {l : List Pt} {c : Int} {k : Nat} {x : Pt} (hx : l[k]? = some x) : fdB l c (k + 1) = (fdB l c k || cls x == c) := by
  unfold fdB
  rw [List.take_add_one, hx, List.any_append]
  simp
theorem fdB_all {l : List Pt} {c n : Nat} (h : l.length = n) : fdB l (c : Int) n = kcB l c := by
  unfold fdB kcB
  rw [← h, List.take_length]
theorem cls_of {x : Pt} {z : Int} (hp : pvP x = true) (hz : kyP x = z) : IntKind.i64.wrap (z + 12) = z + 12 ∧ (z + 12).tmod 12 = cls x ∧ IntKind.i64.wrap ((z + 12).tmod 12) = cls x := by
  have hb := keyZ_bd (show pvB x.s x.a x.o = true from hp)
  have : keyZ x.s x.a x.o = z := hz
  have h0 : 0 ≤ z + 12 := by omega
  have e : (z + 12).tmod 12 = cls x := by rw [Int.tmod_eq_emod_of_nonneg h0]; unfold cls; rw [hz]
  have hc := cls_bd x
  exact ⟨IntWalk.i64_in _ (by omega), e, by rw [e]; exact IntWalk.i64_in _ (by omega)⟩

/- What the functions of chapter 10 answer, as contracts; the model keeps them. -/
open Go.RowKit

def p64s (x : Pt) : Prop := r64 x.s ∧ r64 x.a ∧ r64 x.o
def CCh (f : FuncId) (w : World) : Prop := ∀ (x : Pt) (k : Int) (W : World), Below w.heap.size w W → p64s x → r64 k →
  Calls Tryd.prog f #[.agg #[.int .i64 x.s, .int .i64 x.a, .int .i64 x.o], .int .i64 k] W (RowOutB 26 3 (chL x k).length (pcC (chL x k)) (chB x k) W)
def CNm (f : FuncId) (w : World) : Prop := ∀ (va : Value) (l : List Pt) (W : World), Below w.heap.size w W → SlAt W va l.length 3 (pcC l) → l.length ≤ 1048576 → (∀ x ∈ l, p64s x) →
  Calls Tryd.prog f #[va] W fun e w' => e = .returned (namV (nmZ l)) ∧ Below W.heap.size W w'
def CKc (f : FuncId) (w : World) : Prop := ∀ (va : Value) (l : List Pt) (W : World), Below w.heap.size w W → SlAt W va l.length 3 (pcC l) → l.length ≤ 1048576 → (∀ x ∈ l, p64s x) →
  Calls Tryd.prog f #[va] W (RowOut 3 1 (kcL l).length (intC (kcL l)) W)

theorem CCh.is {f : FuncId} {w : World} (h : CCh f w) {x : Pt} {k : Int} {m : Nat} {t : List Pt} {b : Bool} (hr : p64s x) (hk : r64 k) (hb : chB x k = b) (ht : chL x k = t) (hm : t.length = m) (W : World) (hW : Below w.heap.size w W) :
    Calls Tryd.prog f #[.agg #[.int .i64 x.s, .int .i64 x.a, .int .i64 x.o], .int .i64 k] W (RowOutB 26 3 m (pcC t) b W) := by
  subst hb ht hm; exact h x k W hW hr hk
theorem CNm.is {f : FuncId} {w : World} (h : CNm f w) {l : List Pt} {m : Nat} {o : Option Nam} (hm : l.length = m) (hn : m ≤ 1048576) (hr : ∀ x ∈ l, p64s x) (ho : nmZ l = o) (va : Value) (W : World) (hW : Below w.heap.size w W) (hs : SlAt W va m 3 (pcC l)) :
    Calls Tryd.prog f #[va] W fun e w' => e = .returned (namV o) ∧ Below W.heap.size W w' := by
  subst hm ho; exact h va l W hW hs hn hr
theorem CKc.is {f : FuncId} {w : World} (h : CKc f w) {l : List Pt} {m k : Nat} {u : List Int} (hm : l.length = m) (hn : m ≤ 1048576) (hr : ∀ x ∈ l, p64s x) (hu : kcL l = u) (hk : u.length = k) (va : Value) (W : World) (hW : Below w.heap.size w W) (hs : SlAt W va m 3 (pcC l)) :
    Calls Tryd.prog f #[va] W (RowOut 3 1 k (intC u) W) := by
  subst hm hu hk; exact h va l W hW hs hn hr

theorem chS_C (w : World) : CCh 27 w := fun x k W _ _ _ => chS_any x k W

theorem nmS_C (w : World) : CNm 7 w := fun va l W _ hs hn _ => nmS_any va l W hs hn

theorem p64_of {x : Pt} (h : (-1 ≤ x.s ∧ x.s ≤ 7) ∧ (-3 ≤ x.a ∧ x.a ≤ 3) ∧ (-1 ≤ x.o ∧ x.o ≤ 9)) : p64s x := by
  unfold p64s r64; omega
theorem p64_pv {x : Pt} (h : pvP x = true) : p64s x := by
  have := pvP_iff.1 h
  unfold p64s r64; omega
end Go.Proofs.YtikkcehjfcfcdaaDoor
