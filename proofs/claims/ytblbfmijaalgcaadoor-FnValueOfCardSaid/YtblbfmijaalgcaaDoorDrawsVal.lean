/- l20Value: a value is drawn (its region draws its order: RegionInv). -/
import Derived.Test.YtblbfmijaalgcaaDoorRegionInv
import Derived.Test.YtblbfmijaalgcaaDoorOwnRows
import Derived.Test.YtblbfmijaalgcaaDoorDrawsLen
namespace Go.Proofs.YtblbfmijaalgcaaDoor
set_option linter.unusedSimpArgs false
set_option linter.unusedVariables false
open Go.RowKit

def blkOf : Value → Nat
  | .slice (some p) _ _ => p.block
  | .pointer (some p) => p.block
  | _ => 0
/-- how many picks have come up. -/
def pkV (l : Nat → Bool) : Int := (if l 1 then 1 else 0) + (if l 5 then 1 else 0) + (if l 10 then 1 else 0)
theorem pkV_bd (l : Nat → Bool) : 0 ≤ pkV l ∧ pkV l ≤ 3 := by unfold pkV; (repeat' split) <;> omega
def zero3V : List Value := [.int .i64 0, .int .i64 0, .int .i64 0]
/-- what is owned. -/
def itV (q : Nat) (l : Nat → Bool) (u : Nat → Value) : List Item :=
  if l 15 then [.blk (blkOf (u 14)) (u 13).cells.toList, .blk q zero3V] else
  (if l 3 then [.blk (blkOf (u 3)) ([0, 0, 1, 2].map (Value.int .i64))] else []) ++ ((if l 8 then [.blk (blkOf (u 8)) ([1, 1, 3].map (Value.int .i64))] else []) ++ ((if l 14 then [.blk (blkOf (u 14)) zero3V] else []) ++ [.blk q zero3V]))
/-- What drawing a value leaves. -/
def DrewVal (r : Nat) (P : Int) (w : World) (e : Ending) (w' : World) : Prop :=
  ∃ b d t : Int, (-1 ≤ b ∧ b ≤ 32) ∧ (-1 ≤ d ∧ d ≤ 32) ∧ (-1 ≤ t ∧ t ≤ 32) ∧ e = .returned (.agg #[.int .i64 b, .int .i64 d, .int .i64 t]) ∧ Rd w' r (P + 20) ∧ ButR r w w'
theorem DrewVal.mk {r : Nat} {P R : Int} {w w' : World} {b d t : Int} {L : List Item} (hO : Own w.heap.size (Bd r w R) w' L) (hR : R ≤ P + 20) (hb : -1 ≤ b ∧ b ≤ 32) (hd : -1 ≤ d ∧ d ≤ 32) (ht : -1 ≤ t ∧ t ≤ 32) : DrewVal r P w (.returned (.agg #[.int .i64 b, .int .i64 d, .int .i64 t])) w' := ⟨b, d, t, hb, hd, ht, rfl, hO.base.2.mono hR, hO.base.1⟩
def int3 (lo hi : Int) (v : Value) : Prop := ∃ x : Int, lo ≤ x ∧ x ≤ hi ∧ v = .int .i64 x
theorem int3_mk {lo hi x : Int} (h0 : lo ≤ x) (h1 : x ≤ hi) : int3 lo hi (.int .i64 x) := ⟨x, h0, h1, rfl⟩
/-- What holds whatever has come up. -/
structure VI (r q : Nat) (P : Int) (w0 : World) (l : Nat → Bool) (u : Nat → Value) (w : World) : Prop where
  c0 : l 0 = true → u 0 = .pointer (some ⟨r, 0, none⟩)
  c1 : l 1 = true → int3 0 4 (u 1)
  c2 : l 2 = true → int3 1 16 (u 2)
  c3 : l 3 = true → ∃ b, u 3 = .slice (some ⟨b, 0, none⟩) 4 4
  c4 : l 4 = true → u 4 = .pointer (some ⟨r, 0, none⟩)
  c5 : l 5 = true → int3 0 3 (u 5)
  c6 : l 6 = true → l 3 = true ∧ ∃ x : Int, 0 ≤ x ∧ x < 4 ∧ u 6 = .pointer (some ⟨blkOf (u 3), x.toNat, none⟩)
  c7 : l 7 = true → int3 0 2 (u 7)
  c8 : l 8 = true → ∃ b, u 8 = .slice (some ⟨b, 0, none⟩) 3 3
  c9 : l 9 = true → u 9 = .pointer (some ⟨r, 0, none⟩)
  c10 : l 10 = true → int3 0 2 (u 10)
  c11 : l 11 = true → l 8 = true ∧ ∃ x : Int, 0 ≤ x ∧ x < 3 ∧ u 11 = .pointer (some ⟨blkOf (u 8), x.toNat, none⟩)
  c12 : l 12 = true → int3 1 3 (u 12)
  c13 : l 13 = true → ∃ b d t : Int, (0 ≤ b ∧ b ≤ 16) ∧ (0 ≤ d ∧ d ≤ 2) ∧ (1 ≤ t ∧ t ≤ 3) ∧ u 13 = .agg #[.int .i64 b, .int .i64 d, .int .i64 t]
  c14 : l 14 = true → ∃ b, u 14 = .pointer (some ⟨b, 0, none⟩)
  c15 : l 15 = true → ∀ j, j < 15 → l j = true
  own : Own w0.heap.size (Bd r w0 (P + pkV l)) w (itV q l u)
theorem VI.not15 {r q : Nat} {P : Int} {w0 w : World} {l : Nat → Bool} {u : Nat → Value} (h : VI r q P w0 l u w) {i : Nat} (hi : i < 15) (hl : l i = false) : l 15 = false := by
  cases hh : l 15
  · rfl
  · have := h.c15 hh i hi
    rw [hl] at this; cases this

set_option maxHeartbeats 8000000 in
theorem l20Value_any (r : Nat) (P n : Int) (w : World) (h : Rd w r P) (hP : P ≤ 900000) (n0 : 0 ≤ n) (n1 : n ≤ 1000000) :
    Calls Tryd.prog 31 #[.pointer (some ⟨r, 0, none⟩), .int .i64 n] w (DrewVal r P w) := by
  have hr0 := h.lt
  have hO := Own.startD h
  have hF := True.intro
  go_enter Tryd.func31, Tryd.ntmps31
  go_wp2_with fail
  apply own_code hO
  (repeat (first | (with_reducible exact hO) | (with_reducible apply Own.alloc) | (with_reducible apply Own.drew) | ((with_reducible apply Own.set_at); (focus (show _ ≤ _; omega)))))
  intro hO1
  refine region_inv [some 6, some 7, some 8, some 9, some 10, some 11, some 12, some 13, some 14, some 15, some 16, some 17, some 18, some 19, some 5, none] (fun _ => undef) (VI r w.heap.size P w) [(0, []), (1, [0]), (2, [1]), (3, []), (4, []), (5, [4, 1]), (6, [3, 5]), (7, [6]), (8, []), (9, []), (10, [9, 5]), (11, [8, 10]), (12, [11]), (13, [2, 7, 12]), (14, []), (15, [14, 13, 10, 0, 1, 2, 3, 4, 5, 6, 7, 8, 9, 10, 11, 12, 13, 14])] (by kernel_rfl) (by kernel_rfl) (by decide) ?_ ?_ ?_ ?_
  · simp only [putsU, Act.put, List.setIfInBounds_toArray, List.set_cons_zero, List.set_cons_succ]
  · exact ⟨by simp, by simp, by simp, by simp, by simp, by simp, by simp, by simp, by simp, by simp, by simp, by simp, by simp, by simp, by simp, by simp, by simpa [itV, pkV, zero3V] using hO1.drew⟩
  · clear hO hO1 h hF
    refine AllR.cons ?_ ?_
    · intro l u w1 hl hp h K hK
      have h15 := h.not15 (i := 0) (by omega) hl
      refine wpOp_plain rfl (by rfl) ?_
      simp only [putsU, Act.put, List.setIfInBounds_toArray, List.set_cons_zero, List.set_cons_succ]
      go_simp
      have hh := hK (.pointer (some ⟨r, 0, none⟩)) w1 ⟨fun _ => by simp [updU], by simpa [updL, updU] using h.c1, by simpa [updL, updU] using h.c2, by simpa [updL, updU] using h.c3, by simpa [updL, updU] using h.c4, by simpa [updL, updU] using h.c5, by simpa [updL, updU] using h.c6, by simpa [updL, updU] using h.c7, by simpa [updL, updU] using h.c8, by simpa [updL, updU] using h.c9, by simpa [updL, updU] using h.c10, by simpa [updL, updU] using h.c11, by simpa [updL, updU] using h.c12, by simpa [updL, updU] using h.c13, by simpa [updL, updU] using h.c14, fun h6 => absurd h6 (by simp [updL, h15]), by simpa [itV, pkV, updL, updU, h15] using h.own⟩
      simp only [putsU, updU, Act.put, List.setIfInBounds_toArray, List.set_cons_zero, List.set_cons_succ, Nat.reduceEqDiff, reduceIte, reduceCtorEq, if_true, if_false, Nat.zero_ne_one, Nat.one_ne_zero] at hh
      exact hh
    refine AllR.cons ?_ ?_
    · intro l u w1 hl hp h K hK
      have h15 := h.not15 (i := 1) (by omega) hl
      have e0 := h.c0 (hp 0 (by simp))
      have pb := pkV_bd l
      refine wpOp_plain rfl (by rfl) ?_
      simp only [putsU, Act.put, List.setIfInBounds_toArray, List.set_cons_zero, List.set_cons_succ, e0]
      go_simp
      refine own_pick (k := 5) h.own hr0 (by omega) (by omega) (by omega) ?_
      intro x w2 x0 x1 hO2
      have hpk : P + pkV (updL l 1) = P + pkV l + 1 := by simp [pkV, updL, hl]; try omega
      have hh := hK (.int .i64 x) w2 ⟨by simpa [updL, updU] using h.c0, fun _ => by simpa [updU] using int3_mk x0 (by omega), by simpa [updL, updU] using h.c2, by simpa [updL, updU] using h.c3, by simpa [updL, updU] using h.c4, by simpa [updL, updU] using h.c5, by simpa [updL, updU] using h.c6, by simpa [updL, updU] using h.c7, by simpa [updL, updU] using h.c8, by simpa [updL, updU] using h.c9, by simpa [updL, updU] using h.c10, by simpa [updL, updU] using h.c11, by simpa [updL, updU] using h.c12, by simpa [updL, updU] using h.c13, by simpa [updL, updU] using h.c14, fun h6 => absurd h6 (by simp [updL, h15]), by rw [hpk]; simpa [itV, updL, updU, h15] using hO2⟩
      simp only [putsU, updU, Act.put, List.setIfInBounds_toArray, List.set_cons_zero, List.set_cons_succ, Nat.reduceEqDiff, reduceIte, reduceCtorEq, if_true, if_false, Nat.zero_ne_one, Nat.one_ne_zero, e0] at hh
      exact hh
    refine AllR.cons ?_ ?_
    · intro l u w1 hl hp h K hK
      have h15 := h.not15 (i := 2) (by omega) hl
      obtain ⟨x, x0, x1, e1⟩ := h.c1 (hp 1 (by simp))
      have hK2 : ∀ z : Int, 1 ≤ z → z ≤ 16 → K _ w1 := fun z z0 z1 => hK (.int .i64 z) w1 ⟨by simpa [updL, updU] using h.c0, by simpa [updL, updU] using h.c1, fun _ => by simpa [updU] using int3_mk z0 z1, by simpa [updL, updU] using h.c3, by simpa [updL, updU] using h.c4, by simpa [updL, updU] using h.c5, by simpa [updL, updU] using h.c6, by simpa [updL, updU] using h.c7, by simpa [updL, updU] using h.c8, by simpa [updL, updU] using h.c9, by simpa [updL, updU] using h.c10, by simpa [updL, updU] using h.c11, by simpa [updL, updU] using h.c12, by simpa [updL, updU] using h.c13, by simpa [updL, updU] using h.c14, fun h6 => absurd h6 (by simp [updL, h15]), by simpa [itV, pkV, updL, updU, h15] using h.own⟩
      simp only [putsU, updU, Act.put, List.setIfInBounds_toArray, List.set_cons_zero, List.set_cons_succ, Nat.reduceEqDiff, reduceIte, reduceCtorEq, if_true, if_false, Nat.zero_ne_one, Nat.one_ne_zero, e1] at hK2
      rcases (show x = 0 ∨ x = 1 ∨ x = 2 ∨ x = 3 ∨ x = 4 by omega) with rfl | rfl | rfl | rfl | rfl
      all_goals
        refine wpOp_plain rfl (by rfl) ?_
        simp only [putsU, Act.put, List.setIfInBounds_toArray, List.set_cons_zero, List.set_cons_succ, e1]
        go_simp
        exact hK2 _ (by decide) (by decide)
    refine AllR.cons ?_ ?_
    · intro l u w1 hl hp h K hK
      have h15 := h.not15 (i := 3) (by omega) hl
      have h0 := h.own
      simp only [itV, h15, hl, Bool.false_eq_true, if_false, List.nil_append] at h0
      refine wpOp_plain rfl (by rfl) ?_
      simp only [putsU, Act.put, List.setIfInBounds_toArray, List.set_cons_zero, List.set_cons_succ]
      go_simp
      have hh := hK (.slice (some ⟨w1.heap.size, 0, none⟩) 4 4) (w1.alloc (.cells ([0, 0, 1, 2].map (Value.int .i64)).toArray 3)) ⟨by simpa [updL, updU] using h.c0, by simpa [updL, updU] using h.c1, by simpa [updL, updU] using h.c2, fun _ => ⟨w1.heap.size, by simp [updU]⟩, by simpa [updL, updU] using h.c4, by simpa [updL, updU] using h.c5, fun h6 => absurd (h.c6 (by simpa [updL] using h6)).1 (by rw [hl]; decide), by simpa [updL, updU] using h.c7, by simpa [updL, updU] using h.c8, by simpa [updL, updU] using h.c9, by simpa [updL, updU] using h.c10, by simpa [updL, updU] using h.c11, by simpa [updL, updU] using h.c12, by simpa [updL, updU] using h.c13, by simpa [updL, updU] using h.c14, fun h6 => absurd h6 (by simp [updL, h15]), by simpa [itV, pkV, updL, updU, h15, hl, blkOf] using (h0.alloc (t := 3) (vs := [0, 0, 1, 2].map (Value.int .i64)))⟩
      simp only [putsU, updU, Act.put, List.setIfInBounds_toArray, List.set_cons_zero, List.set_cons_succ, Nat.reduceEqDiff, reduceIte, reduceCtorEq, if_true, if_false, Nat.zero_ne_one, Nat.one_ne_zero] at hh
      exact hh
    refine AllR.cons ?_ ?_
    · intro l u w1 hl hp h K hK
      have h15 := h.not15 (i := 4) (by omega) hl
      refine wpOp_plain rfl (by rfl) ?_
      simp only [putsU, Act.put, List.setIfInBounds_toArray, List.set_cons_zero, List.set_cons_succ]
      go_simp
      have hh := hK (.pointer (some ⟨r, 0, none⟩)) w1 ⟨by simpa [updL, updU] using h.c0, by simpa [updL, updU] using h.c1, by simpa [updL, updU] using h.c2, by simpa [updL, updU] using h.c3, fun _ => by simp [updU], by simpa [updL, updU] using h.c5, by simpa [updL, updU] using h.c6, by simpa [updL, updU] using h.c7, by simpa [updL, updU] using h.c8, by simpa [updL, updU] using h.c9, by simpa [updL, updU] using h.c10, by simpa [updL, updU] using h.c11, by simpa [updL, updU] using h.c12, by simpa [updL, updU] using h.c13, by simpa [updL, updU] using h.c14, fun h6 => absurd h6 (by simp [updL, h15]), by simpa [itV, pkV, updL, updU, h15] using h.own⟩
      simp only [putsU, updU, Act.put, List.setIfInBounds_toArray, List.set_cons_zero, List.set_cons_succ, Nat.reduceEqDiff, reduceIte, reduceCtorEq, if_true, if_false, Nat.zero_ne_one, Nat.one_ne_zero] at hh
      exact hh
    refine AllR.cons ?_ ?_
    · intro l u w1 hl hp h K hK
      have h15 := h.not15 (i := 5) (by omega) hl
      have e0 := h.c4 (hp 4 (by simp))
      have pb := pkV_bd l
      refine wpOp_plain rfl (by rfl) ?_
      simp only [putsU, Act.put, List.setIfInBounds_toArray, List.set_cons_zero, List.set_cons_succ, e0]
      go_simp
      refine own_pick (k := 4) h.own hr0 (by omega) (by omega) (by omega) ?_
      intro x w2 x0 x1 hO2
      have hpk : P + pkV (updL l 5) = P + pkV l + 1 := by simp [pkV, updL, hl]; try omega
      have hh := hK (.int .i64 x) w2 ⟨by simpa [updL, updU] using h.c0, by simpa [updL, updU] using h.c1, by simpa [updL, updU] using h.c2, by simpa [updL, updU] using h.c3, by simpa [updL, updU] using h.c4, fun _ => by simpa [updU] using int3_mk x0 (by omega), by simpa [updL, updU] using h.c6, by simpa [updL, updU] using h.c7, by simpa [updL, updU] using h.c8, by simpa [updL, updU] using h.c9, by simpa [updL, updU] using h.c10, by simpa [updL, updU] using h.c11, by simpa [updL, updU] using h.c12, by simpa [updL, updU] using h.c13, by simpa [updL, updU] using h.c14, fun h6 => absurd h6 (by simp [updL, h15]), by rw [hpk]; simpa [itV, updL, updU, h15] using hO2⟩
      simp only [putsU, updU, Act.put, List.setIfInBounds_toArray, List.set_cons_zero, List.set_cons_succ, Nat.reduceEqDiff, reduceIte, reduceCtorEq, if_true, if_false, Nat.zero_ne_one, Nat.one_ne_zero, e0] at hh
      exact hh
    refine AllR.cons ?_ ?_
    · intro l u w1 hl hp h K hK
      have h15 := h.not15 (i := 6) (by omega) hl
      obtain ⟨b, e3⟩ := h.c3 (hp 3 (by simp))
      obtain ⟨x, x0, x1, e5⟩ := h.c5 (hp 5 (by simp))
      have x2 : x < 4 := by omega
      refine wpOp_plain rfl (by rfl) ?_
      simp only [putsU, Act.put, List.setIfInBounds_toArray, List.set_cons_zero, List.set_cons_succ, e3, e5]
      go_simp
      have hh := hK (.pointer (some ⟨b, x.toNat, none⟩)) w1 ⟨by simpa [updL, updU] using h.c0, by simpa [updL, updU] using h.c1, by simpa [updL, updU] using h.c2, by simpa [updL, updU] using h.c3, by simpa [updL, updU] using h.c4, by simpa [updL, updU] using h.c5, fun _ => ⟨by simpa [updL] using (hp 3 (by simp)), x, x0, x2, by simp [updU, e3, blkOf]⟩, by simpa [updL, updU] using h.c7, by simpa [updL, updU] using h.c8, by simpa [updL, updU] using h.c9, by simpa [updL, updU] using h.c10, by simpa [updL, updU] using h.c11, by simpa [updL, updU] using h.c12, by simpa [updL, updU] using h.c13, by simpa [updL, updU] using h.c14, fun h6 => absurd h6 (by simp [updL, h15]), by simpa [itV, pkV, updL, updU, h15] using h.own⟩
      simp only [putsU, updU, Act.put, List.setIfInBounds_toArray, List.set_cons_zero, List.set_cons_succ, Nat.reduceEqDiff, reduceIte, reduceCtorEq, if_true, if_false, Nat.zero_ne_one, Nat.one_ne_zero, e3, e5] at hh
      exact hh
    refine AllR.cons ?_ ?_
    · intro l u w1 hl hp h K hK
      have h15 := h.not15 (i := 7) (by omega) hl
      obtain ⟨h3, x, x0, x1, e6⟩ := h.c6 (hp 6 (by simp))
      obtain ⟨z, hz, hc⟩ := h.own.int_in (b := blkOf (u 3)) (lo := 0) (hi := 2) (x := x) [0, 0, 1, 2] (by simp [itV, h15, h3]) x0 (by simpa using x1) (by decide)
      refine wpOp_plain rfl (by rfl) ?_
      simp only [putsU, Act.put, List.setIfInBounds_toArray, List.set_cons_zero, List.set_cons_succ, e6]
      go_simp
      have hh := hK (.int .i64 z) w1 ⟨by simpa [updL, updU] using h.c0, by simpa [updL, updU] using h.c1, by simpa [updL, updU] using h.c2, by simpa [updL, updU] using h.c3, by simpa [updL, updU] using h.c4, by simpa [updL, updU] using h.c5, by simpa [updL, updU] using h.c6, fun _ => by simpa [updU] using int3_mk hz.1 hz.2, by simpa [updL, updU] using h.c8, by simpa [updL, updU] using h.c9, by simpa [updL, updU] using h.c10, by simpa [updL, updU] using h.c11, by simpa [updL, updU] using h.c12, by simpa [updL, updU] using h.c13, by simpa [updL, updU] using h.c14, fun h6 => absurd h6 (by simp [updL, h15]), by simpa [itV, pkV, updL, updU, h15] using h.own⟩
      simp only [putsU, updU, Act.put, List.setIfInBounds_toArray, List.set_cons_zero, List.set_cons_succ, Nat.reduceEqDiff, reduceIte, reduceCtorEq, if_true, if_false, Nat.zero_ne_one, Nat.one_ne_zero, e6] at hh
      exact hh
    refine AllR.cons ?_ ?_
    · intro l u w1 hl hp h K hK
      have h15 := h.not15 (i := 8) (by omega) hl
      have h0 := h.own
      simp only [itV, h15, hl, Bool.false_eq_true, if_false, List.nil_append] at h0
      refine wpOp_plain rfl (by rfl) ?_
      simp only [putsU, Act.put, List.setIfInBounds_toArray, List.set_cons_zero, List.set_cons_succ]
      go_simp
      have hh := hK (.slice (some ⟨w1.heap.size, 0, none⟩) 3 3) (w1.alloc (.cells ([1, 1, 3].map (Value.int .i64)).toArray 3)) ⟨by simpa [updL, updU] using h.c0, by simpa [updL, updU] using h.c1, by simpa [updL, updU] using h.c2, by simpa [updL, updU] using h.c3, by simpa [updL, updU] using h.c4, by simpa [updL, updU] using h.c5, by simpa [updL, updU] using h.c6, by simpa [updL, updU] using h.c7, fun _ => ⟨w1.heap.size, by simp [updU]⟩, by simpa [updL, updU] using h.c9, by simpa [updL, updU] using h.c10, fun h6 => absurd (h.c11 (by simpa [updL] using h6)).1 (by rw [hl]; decide), by simpa [updL, updU] using h.c12, by simpa [updL, updU] using h.c13, by simpa [updL, updU] using h.c14, fun h6 => absurd h6 (by simp [updL, h15]), by simpa [itV, pkV, updL, updU, h15, hl, blkOf] using Own.perm List.perm_middle.symm (h0.alloc (t := 3) (vs := [1, 1, 3].map (Value.int .i64)))⟩
      simp only [putsU, updU, Act.put, List.setIfInBounds_toArray, List.set_cons_zero, List.set_cons_succ, Nat.reduceEqDiff, reduceIte, reduceCtorEq, if_true, if_false, Nat.zero_ne_one, Nat.one_ne_zero] at hh
      exact hh
    refine AllR.cons ?_ ?_
    · intro l u w1 hl hp h K hK
      have h15 := h.not15 (i := 9) (by omega) hl
      refine wpOp_plain rfl (by rfl) ?_
      simp only [putsU, Act.put, List.setIfInBounds_toArray, List.set_cons_zero, List.set_cons_succ]
      go_simp
      have hh := hK (.pointer (some ⟨r, 0, none⟩)) w1 ⟨by simpa [updL, updU] using h.c0, by simpa [updL, updU] using h.c1, by simpa [updL, updU] using h.c2, by simpa [updL, updU] using h.c3, by simpa [updL, updU] using h.c4, by simpa [updL, updU] using h.c5, by simpa [updL, updU] using h.c6, by simpa [updL, updU] using h.c7, by simpa [updL, updU] using h.c8, fun _ => by simp [updU], by simpa [updL, updU] using h.c10, by simpa [updL, updU] using h.c11, by simpa [updL, updU] using h.c12, by simpa [updL, updU] using h.c13, by simpa [updL, updU] using h.c14, fun h6 => absurd h6 (by simp [updL, h15]), by simpa [itV, pkV, updL, updU, h15] using h.own⟩
      simp only [putsU, updU, Act.put, List.setIfInBounds_toArray, List.set_cons_zero, List.set_cons_succ, Nat.reduceEqDiff, reduceIte, reduceCtorEq, if_true, if_false, Nat.zero_ne_one, Nat.one_ne_zero] at hh
      exact hh
    refine AllR.cons ?_ ?_
    · intro l u w1 hl hp h K hK
      have h15 := h.not15 (i := 10) (by omega) hl
      have e0 := h.c9 (hp 9 (by simp))
      have pb := pkV_bd l
      refine wpOp_plain rfl (by rfl) ?_
      simp only [putsU, Act.put, List.setIfInBounds_toArray, List.set_cons_zero, List.set_cons_succ, e0]
      go_simp
      refine own_pick (k := 3) h.own hr0 (by omega) (by omega) (by omega) ?_
      intro x w2 x0 x1 hO2
      have hpk : P + pkV (updL l 10) = P + pkV l + 1 := by simp [pkV, updL, hl]; try omega
      have hh := hK (.int .i64 x) w2 ⟨by simpa [updL, updU] using h.c0, by simpa [updL, updU] using h.c1, by simpa [updL, updU] using h.c2, by simpa [updL, updU] using h.c3, by simpa [updL, updU] using h.c4, by simpa [updL, updU] using h.c5, by simpa [updL, updU] using h.c6, by simpa [updL, updU] using h.c7, by simpa [updL, updU] using h.c8, by simpa [updL, updU] using h.c9, fun _ => by simpa [updU] using int3_mk x0 (by omega), by simpa [updL, updU] using h.c11, by simpa [updL, updU] using h.c12, by simpa [updL, updU] using h.c13, by simpa [updL, updU] using h.c14, fun h6 => absurd h6 (by simp [updL, h15]), by rw [hpk]; simpa [itV, updL, updU, h15] using hO2⟩
      simp only [putsU, updU, Act.put, List.setIfInBounds_toArray, List.set_cons_zero, List.set_cons_succ, Nat.reduceEqDiff, reduceIte, reduceCtorEq, if_true, if_false, Nat.zero_ne_one, Nat.one_ne_zero, e0] at hh
      exact hh
    refine AllR.cons ?_ ?_
    · intro l u w1 hl hp h K hK
      have h15 := h.not15 (i := 11) (by omega) hl
      obtain ⟨b, e3⟩ := h.c8 (hp 8 (by simp))
      obtain ⟨x, x0, x1, e5⟩ := h.c10 (hp 10 (by simp))
      have x2 : x < 3 := by omega
      refine wpOp_plain rfl (by rfl) ?_
      simp only [putsU, Act.put, List.setIfInBounds_toArray, List.set_cons_zero, List.set_cons_succ, e3, e5]
      go_simp
      have hh := hK (.pointer (some ⟨b, x.toNat, none⟩)) w1 ⟨by simpa [updL, updU] using h.c0, by simpa [updL, updU] using h.c1, by simpa [updL, updU] using h.c2, by simpa [updL, updU] using h.c3, by simpa [updL, updU] using h.c4, by simpa [updL, updU] using h.c5, by simpa [updL, updU] using h.c6, by simpa [updL, updU] using h.c7, by simpa [updL, updU] using h.c8, by simpa [updL, updU] using h.c9, by simpa [updL, updU] using h.c10, fun _ => ⟨by simpa [updL] using (hp 8 (by simp)), x, x0, x2, by simp [updU, e3, blkOf]⟩, by simpa [updL, updU] using h.c12, by simpa [updL, updU] using h.c13, by simpa [updL, updU] using h.c14, fun h6 => absurd h6 (by simp [updL, h15]), by simpa [itV, pkV, updL, updU, h15] using h.own⟩
      simp only [putsU, updU, Act.put, List.setIfInBounds_toArray, List.set_cons_zero, List.set_cons_succ, Nat.reduceEqDiff, reduceIte, reduceCtorEq, if_true, if_false, Nat.zero_ne_one, Nat.one_ne_zero, e3, e5] at hh
      exact hh
    refine AllR.cons ?_ ?_
    · intro l u w1 hl hp h K hK
      have h15 := h.not15 (i := 12) (by omega) hl
      obtain ⟨h3, x, x0, x1, e6⟩ := h.c11 (hp 11 (by simp))
      obtain ⟨z, hz, hc⟩ := h.own.int_in (b := blkOf (u 8)) (lo := 1) (hi := 3) (x := x) [1, 1, 3] (by simp [itV, h15, h3]) x0 (by simpa using x1) (by decide)
      refine wpOp_plain rfl (by rfl) ?_
      simp only [putsU, Act.put, List.setIfInBounds_toArray, List.set_cons_zero, List.set_cons_succ, e6]
      go_simp
      have hh := hK (.int .i64 z) w1 ⟨by simpa [updL, updU] using h.c0, by simpa [updL, updU] using h.c1, by simpa [updL, updU] using h.c2, by simpa [updL, updU] using h.c3, by simpa [updL, updU] using h.c4, by simpa [updL, updU] using h.c5, by simpa [updL, updU] using h.c6, by simpa [updL, updU] using h.c7, by simpa [updL, updU] using h.c8, by simpa [updL, updU] using h.c9, by simpa [updL, updU] using h.c10, by simpa [updL, updU] using h.c11, fun _ => by simpa [updU] using int3_mk hz.1 hz.2, by simpa [updL, updU] using h.c13, by simpa [updL, updU] using h.c14, fun h6 => absurd h6 (by simp [updL, h15]), by simpa [itV, pkV, updL, updU, h15] using h.own⟩
      simp only [putsU, updU, Act.put, List.setIfInBounds_toArray, List.set_cons_zero, List.set_cons_succ, Nat.reduceEqDiff, reduceIte, reduceCtorEq, if_true, if_false, Nat.zero_ne_one, Nat.one_ne_zero, e6] at hh
      exact hh
    refine AllR.cons ?_ ?_
    · intro l u w1 hl hp h K hK
      have h15 := h.not15 (i := 13) (by omega) hl
      obtain ⟨b, b0, b1, e2⟩ := h.c2 (hp 2 (by simp))
      obtain ⟨d, d0, d1, e7⟩ := h.c7 (hp 7 (by simp))
      obtain ⟨t, t0, t1, e12⟩ := h.c12 (hp 12 (by simp))
      refine wpOp_plain rfl (by rfl) ?_
      simp only [putsU, Act.put, List.setIfInBounds_toArray, List.set_cons_zero, List.set_cons_succ, e2, e7, e12]
      go_simp
      have hh := hK (.agg #[.int .i64 b, .int .i64 d, .int .i64 t]) w1 ⟨by simpa [updL, updU] using h.c0, by simpa [updL, updU] using h.c1, by simpa [updL, updU] using h.c2, by simpa [updL, updU] using h.c3, by simpa [updL, updU] using h.c4, by simpa [updL, updU] using h.c5, by simpa [updL, updU] using h.c6, by simpa [updL, updU] using h.c7, by simpa [updL, updU] using h.c8, by simpa [updL, updU] using h.c9, by simpa [updL, updU] using h.c10, by simpa [updL, updU] using h.c11, by simpa [updL, updU] using h.c12, fun _ => ⟨b, d, t, ⟨by omega, b1⟩, ⟨d0, d1⟩, ⟨t0, t1⟩, by simp [updU]⟩, by simpa [updL, updU] using h.c14, fun h6 => absurd h6 (by simp [updL, h15]), by simpa [itV, pkV, updL, updU, h15] using h.own⟩
      simp only [putsU, updU, Act.put, List.setIfInBounds_toArray, List.set_cons_zero, List.set_cons_succ, Nat.reduceEqDiff, reduceIte, reduceCtorEq, if_true, if_false, Nat.zero_ne_one, Nat.one_ne_zero, e2, e7, e12] at hh
      exact hh
    refine AllR.cons ?_ ?_
    · intro l u w1 hl hp h K hK
      have h15 := h.not15 (i := 14) (by omega) hl
      have h0 := h.own
      simp only [itV, h15, hl, Bool.false_eq_true, if_false, List.nil_append] at h0
      rw [← List.append_assoc] at h0
      refine wpOp_plain rfl (by rfl) ?_
      simp only [putsU, Act.put, List.setIfInBounds_toArray, List.set_cons_zero, List.set_cons_succ]
      go_simp
      have hh := hK (.pointer (some ⟨w1.heap.size, 0, none⟩)) (w1.alloc (.cells zero3V.toArray 24)) ⟨by simpa [updL, updU] using h.c0, by simpa [updL, updU] using h.c1, by simpa [updL, updU] using h.c2, by simpa [updL, updU] using h.c3, by simpa [updL, updU] using h.c4, by simpa [updL, updU] using h.c5, by simpa [updL, updU] using h.c6, by simpa [updL, updU] using h.c7, by simpa [updL, updU] using h.c8, by simpa [updL, updU] using h.c9, by simpa [updL, updU] using h.c10, by simpa [updL, updU] using h.c11, by simpa [updL, updU] using h.c12, by simpa [updL, updU] using h.c13, fun _ => ⟨w1.heap.size, by simp [updU]⟩, fun h6 => absurd h6 (by simp [updL, h15]), by simpa [itV, pkV, updL, updU, h15, hl, blkOf, zero3V] using Own.perm List.perm_middle.symm (h0.alloc (t := 24) (vs := zero3V))⟩
      simp only [putsU, updU, Act.put, List.setIfInBounds_toArray, List.set_cons_zero, List.set_cons_succ, Nat.reduceEqDiff, reduceIte, reduceCtorEq, if_true, if_false, Nat.zero_ne_one, Nat.one_ne_zero] at hh
      exact hh
    refine AllR.cons ?_ ?_
    · intro l u w1 hl hp h K hK
      obtain ⟨b, d, t, hb, hd, ht, e13⟩ := h.c13 (hp 13 (by simp))
      obtain ⟨q, e14⟩ := h.c14 (hp 14 (by simp))
      have h3 := hp 3 (by simp)
      have h8 := hp 8 (by simp)
      have h14 := hp 14 (by simp)
      have h0 := h.own
      simp only [itV, hl, h3, h8, h14, Bool.false_eq_true, if_false, if_true, List.cons_append, List.nil_append, e14, blkOf, zero3V] at h0
      replace h0 := Own.drop (Own.drop h0)
      have hG := h0
      simp only [Own, Item.Holds, apartI, CellsAt, Nat.reduceAdd, Nat.zero_add, List.mem_cons, List.not_mem_nil, or_false, forall_eq_or_imp, forall_eq, ne_eq, false_imp_iff, implies_true, and_true] at hG
      refine wpOp_plain rfl (by rfl) ?_
      simp only [putsU, Act.put, List.setIfInBounds_toArray, List.set_cons_zero, List.set_cons_succ, e13, e14]
      go_simp
      have h1 := ((h0.set_at (b := q) (i := 0) (u := .int .i64 b) (by omega)).set_at (b := q) (i := 1) (u := .int .i64 d) (by omega)).set_at (b := q) (i := 2) (u := .int .i64 t) (by omega)
      simp only [upd, updI, List.map_cons, List.map_nil, if_true, List.set_cons_zero, List.set_cons_succ, hG, if_false, reduceIte] at h1
      have hh := hK undef _ ⟨by simpa [updL, updU] using h.c0, by simpa [updL, updU] using h.c1, by simpa [updL, updU] using h.c2, by simpa [updL, updU] using h.c3, by simpa [updL, updU] using h.c4, by simpa [updL, updU] using h.c5, by simpa [updL, updU] using h.c6, by simpa [updL, updU] using h.c7, by simpa [updL, updU] using h.c8, by simpa [updL, updU] using h.c9, by simpa [updL, updU] using h.c10, by simpa [updL, updU] using h.c11, by simpa [updL, updU] using h.c12, by simpa [updL, updU] using h.c13, by simpa [updL, updU] using h.c14, fun _ j hj => by have := hp j (by simp; omega); simpa [updL, show ¬ j = 15 by omega] using this, by simpa [itV, pkV, updL, updU, e13, e14, blkOf, Value.cells, zero3V] using h1⟩
      simp only [putsU, updU, Act.put, List.setIfInBounds_toArray, List.set_cons_zero, List.set_cons_succ, Nat.reduceEqDiff, reduceIte, reduceCtorEq, if_true, if_false, Nat.zero_ne_one, Nat.one_ne_zero, e13, e14] at hh
      exact hh
    exact AllR.nil
  · intro l u w1 hall h'
    obtain ⟨b, d, t, hb, hd, ht, e13⟩ := h'.c13 (hall 13 (by decide))
    obtain ⟨q, e14⟩ := h'.c14 (hall 14 (by decide))
    have hO2 := h'.own
    have pb := pkV_bd l
    simp only [itV, hall 15 (by decide), if_true, e13, e14, blkOf, Value.cells, zero3V] at hO2
    replace hO := hO2.mono (Q := P + 3) hr0 (by omega)
    clear hO1 hO2 h' pb h hF
    simp only [putsU, Act.put, List.setIfInBounds_toArray, List.set_cons_zero, List.set_cons_succ, e13, e14]
    clear e13 e14 hall
    have hF := hO; (try simp only [Own, Item.Holds, apartI, CellsAt, Nat.reduceAdd, Nat.zero_add, List.mem_cons, List.not_mem_nil, or_false, forall_eq_or_imp, forall_eq, ne_eq, false_imp_iff, implies_true, and_true] at hF)
    go_wp2_with fail
    (go_at_call 42; apply own_at hO; (repeat (first | (with_reducible exact hO) | (with_reducible apply Own.alloc) | (with_reducible apply Own.drew) | ((with_reducible apply Own.set_at); (focus (show _ ≤ _; omega))))); have hG := hF; clear hF; clear hO; intro hO; refine own_odd hO hr0 (by omega) (by omega) (by omega) ?_; clear hO; intro x w1 hO; (try simp only [World.size_alloc1, World.size_drew, Nat.reduceAdd] at hO); (try simp only [upd, updI, List.map_cons, List.map_nil, eq_self, if_true, if_false, reduceIte, Nat.add_eq_left, Nat.left_eq_add, Nat.reduceEqDiff, List.set_cons_zero, List.set_cons_succ, hG] at hO); clear hG; have hF := hO; (try simp only [Own, Item.Holds, apartI, CellsAt, Nat.reduceAdd, Nat.zero_add, List.mem_cons, List.not_mem_nil, or_false, forall_eq_or_imp, forall_eq, ne_eq, false_imp_iff, implies_true, and_true] at hF))
    cases x
    · go_wp2_with fail
      apply own_end hO
      (repeat (first | (with_reducible exact hO) | (with_reducible apply Own.alloc) | (with_reducible apply Own.drew) | ((with_reducible apply Own.set_at); (focus (show _ ≤ _; omega)))))
      have hG := hF; clear hF; clear hO; intro hO
      refine own_ret (v := .agg #[.int .i64 b, .int .i64 d, .int .i64 t]) hO ?_ rfl (fun hO => DrewVal.mk hO (by omega) (by omega) (by omega) (by omega))
      clear hO; intro w1 hO
      (try simp only [World.size_alloc1, World.size_drew, Nat.reduceAdd] at hO); (try simp only [upd, updI, List.map_cons, List.map_nil, eq_self, if_true, if_false, reduceIte, Nat.add_eq_left, Nat.left_eq_add, Nat.reduceEqDiff, List.set_cons_zero, List.set_cons_succ, hG] at hO); clear hG
      have hF := hO; (try simp only [Own, Item.Holds, apartI, CellsAt, Nat.reduceAdd, Nat.zero_add, List.mem_cons, List.not_mem_nil, or_false, forall_eq_or_imp, forall_eq, ne_eq, false_imp_iff, implies_true, and_true] at hF)
      simp [results, Tryd.results31, go_sem, hF]
    · go_wp2_with fail
      (go_at_call 37; apply own_at hO; (repeat (first | (with_reducible exact hO) | (with_reducible apply Own.alloc) | (with_reducible apply Own.drew) | ((with_reducible apply Own.set_at); (focus (show _ ≤ _; omega))))); have hG := hF; clear hF; clear hO; intro hO; refine own_pick (k := 3) hO hr0 (by omega) (by omega) (by omega) ?_; clear hO; intro x w1 x0 x1 hO; (try simp only [World.size_alloc1, World.size_drew, Nat.reduceAdd] at hO); (try simp only [upd, updI, List.map_cons, List.map_nil, eq_self, if_true, if_false, reduceIte, Nat.add_eq_left, Nat.left_eq_add, Nat.reduceEqDiff, List.set_cons_zero, List.set_cons_succ, hG] at hO); clear hG; have hF := hO; (try simp only [Own, Item.Holds, apartI, CellsAt, Nat.reduceAdd, Nat.zero_add, List.mem_cons, List.not_mem_nil, or_false, forall_eq_or_imp, forall_eq, ne_eq, false_imp_iff, implies_true, and_true] at hF))
      rcases (show x = 0 ∨ x = 1 ∨ x = 2 by omega) with rfl | rfl | rfl
      · clear x0 x1
        go_wp2_with fail
        (go_at_call 37; apply own_at hO; (repeat (first | (with_reducible exact hO) | (with_reducible apply Own.alloc) | (with_reducible apply Own.drew) | ((with_reducible apply Own.set_at); (focus (show _ ≤ _; omega))))); have hG := hF; clear hF; clear hO; intro hO; refine own_pick (k := 3) hO hr0 (by omega) (by omega) (by omega) ?_; clear hO; intro x w1 x0 x1 hO; (try simp only [World.size_alloc1, World.size_drew, Nat.reduceAdd] at hO); (try simp only [upd, updI, List.map_cons, List.map_nil, eq_self, if_true, if_false, reduceIte, Nat.add_eq_left, Nat.left_eq_add, Nat.reduceEqDiff, List.set_cons_zero, List.set_cons_succ, hG] at hO); clear hG; have hF := hO; (try simp only [Own, Item.Holds, apartI, CellsAt, Nat.reduceAdd, Nat.zero_add, List.mem_cons, List.not_mem_nil, or_false, forall_eq_or_imp, forall_eq, ne_eq, false_imp_iff, implies_true, and_true] at hF); obtain ⟨z, hz, hc⟩ := hO.int_in (lo := 0) (hi := 32) (x := x) [0, 3, 32] List.mem_cons_self x0 (by simpa using x1) (by decide))
        go_wp2_with fail
        apply own_end hO
        (repeat (first | (with_reducible exact hO) | (with_reducible apply Own.alloc) | (with_reducible apply Own.drew) | ((with_reducible apply Own.set_at); (focus (show _ ≤ _; omega)))))
        have hG := hF; clear hF; clear hO; intro hO
        refine own_ret (v := .agg #[.int .i64 z, .int .i64 d, .int .i64 t]) hO ?_ rfl (fun hO => DrewVal.mk hO (by omega) (by omega) (by omega) (by omega))
        clear hO; intro w1 hO
        (try simp only [World.size_alloc1, World.size_drew, Nat.reduceAdd] at hO); (try simp only [upd, updI, List.map_cons, List.map_nil, eq_self, if_true, if_false, reduceIte, Nat.add_eq_left, Nat.left_eq_add, Nat.reduceEqDiff, List.set_cons_zero, List.set_cons_succ, hG] at hO); clear hG
        have hF := hO; (try simp only [Own, Item.Holds, apartI, CellsAt, Nat.reduceAdd, Nat.zero_add, List.mem_cons, List.not_mem_nil, or_false, forall_eq_or_imp, forall_eq, ne_eq, false_imp_iff, implies_true, and_true] at hF)
        simp [results, Tryd.results31, go_sem, hF]
      · clear x0 x1
        go_wp2_with fail
        (go_at_call 37; apply own_at hO; (repeat (first | (with_reducible exact hO) | (with_reducible apply Own.alloc) | (with_reducible apply Own.drew) | ((with_reducible apply Own.set_at); (focus (show _ ≤ _; omega))))); have hG := hF; clear hF; clear hO; intro hO; refine own_pick (k := 2) hO hr0 (by omega) (by omega) (by omega) ?_; clear hO; intro x w1 x0 x1 hO; (try simp only [World.size_alloc1, World.size_drew, Nat.reduceAdd] at hO); (try simp only [upd, updI, List.map_cons, List.map_nil, eq_self, if_true, if_false, reduceIte, Nat.add_eq_left, Nat.left_eq_add, Nat.reduceEqDiff, List.set_cons_zero, List.set_cons_succ, hG] at hO); clear hG; have hF := hO; (try simp only [Own, Item.Holds, apartI, CellsAt, Nat.reduceAdd, Nat.zero_add, List.mem_cons, List.not_mem_nil, or_false, forall_eq_or_imp, forall_eq, ne_eq, false_imp_iff, implies_true, and_true] at hF); obtain ⟨z, hz, hc⟩ := hO.int_in (lo := -1) (hi := 3) (x := x) [-1, 3] List.mem_cons_self x0 (by simpa using x1) (by decide))
        go_wp2_with fail
        apply own_end hO
        (repeat (first | (with_reducible exact hO) | (with_reducible apply Own.alloc) | (with_reducible apply Own.drew) | ((with_reducible apply Own.set_at); (focus (show _ ≤ _; omega)))))
        have hG := hF; clear hF; clear hO; intro hO
        refine own_ret (v := .agg #[.int .i64 b, .int .i64 z, .int .i64 t]) hO ?_ rfl (fun hO => DrewVal.mk hO (by omega) (by omega) (by omega) (by omega))
        clear hO; intro w1 hO
        (try simp only [World.size_alloc1, World.size_drew, Nat.reduceAdd] at hO); (try simp only [upd, updI, List.map_cons, List.map_nil, eq_self, if_true, if_false, reduceIte, Nat.add_eq_left, Nat.left_eq_add, Nat.reduceEqDiff, List.set_cons_zero, List.set_cons_succ, hG] at hO); clear hG
        have hF := hO; (try simp only [Own, Item.Holds, apartI, CellsAt, Nat.reduceAdd, Nat.zero_add, List.mem_cons, List.not_mem_nil, or_false, forall_eq_or_imp, forall_eq, ne_eq, false_imp_iff, implies_true, and_true] at hF)
        simp [results, Tryd.results31, go_sem, hF]
      · clear x0 x1
        go_wp2_with fail
        (go_at_call 37; apply own_at hO; (repeat (first | (with_reducible exact hO) | (with_reducible apply Own.alloc) | (with_reducible apply Own.drew) | ((with_reducible apply Own.set_at); (focus (show _ ≤ _; omega))))); have hG := hF; clear hF; clear hO; intro hO; refine own_pick (k := 2) hO hr0 (by omega) (by omega) (by omega) ?_; clear hO; intro x w1 x0 x1 hO; (try simp only [World.size_alloc1, World.size_drew, Nat.reduceAdd] at hO); (try simp only [upd, updI, List.map_cons, List.map_nil, eq_self, if_true, if_false, reduceIte, Nat.add_eq_left, Nat.left_eq_add, Nat.reduceEqDiff, List.set_cons_zero, List.set_cons_succ, hG] at hO); clear hG; have hF := hO; (try simp only [Own, Item.Holds, apartI, CellsAt, Nat.reduceAdd, Nat.zero_add, List.mem_cons, List.not_mem_nil, or_false, forall_eq_or_imp, forall_eq, ne_eq, false_imp_iff, implies_true, and_true] at hF); obtain ⟨z, hz, hc⟩ := hO.int_in (lo := 0) (hi := 2) (x := x) [0, 2] List.mem_cons_self x0 (by simpa using x1) (by decide))
        go_wp2_with fail
        apply own_end hO
        (repeat (first | (with_reducible exact hO) | (with_reducible apply Own.alloc) | (with_reducible apply Own.drew) | ((with_reducible apply Own.set_at); (focus (show _ ≤ _; omega)))))
        have hG := hF; clear hF; clear hO; intro hO
        refine own_ret (v := .agg #[.int .i64 b, .int .i64 d, .int .i64 z]) hO ?_ rfl (fun hO => DrewVal.mk hO (by omega) (by omega) (by omega) (by omega))
        clear hO; intro w1 hO
        (try simp only [World.size_alloc1, World.size_drew, Nat.reduceAdd] at hO); (try simp only [upd, updI, List.map_cons, List.map_nil, eq_self, if_true, if_false, reduceIte, Nat.add_eq_left, Nat.left_eq_add, Nat.reduceEqDiff, List.set_cons_zero, List.set_cons_succ, hG] at hO); clear hG
        have hF := hO; (try simp only [Own, Item.Holds, apartI, CellsAt, Nat.reduceAdd, Nat.zero_add, List.mem_cons, List.not_mem_nil, or_false, forall_eq_or_imp, forall_eq, ne_eq, false_imp_iff, implies_true, and_true] at hF)
        simp [results, Tryd.results31, go_sem, hF]
end Go.Proofs.YtblbfmijaalgcaaDoor
