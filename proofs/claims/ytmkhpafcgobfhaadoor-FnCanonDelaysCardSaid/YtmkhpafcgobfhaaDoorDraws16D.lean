/- DrawCanonDelays (its region draws its order: RegionInv; written by gencd.py). -/
import Derived.Test.YtmkhpafcgobfhaaDoorDraws16
import Derived.Test.YtmkhpafcgobfhaaDoorRegionInv
namespace Go.Proofs.YtmkhpafcgobfhaaDoor
set_option linter.unusedSimpArgs false
set_option linter.unusedVariables false
set_option maxRecDepth 8000
open Go.RowKit

theorem seven17 (x : Int) : 0 ≤ ([0, 0, 1, 1, 2, 3, 4] : List Int).getD x.toNat 0 ∧ ([0, 0, 1, 1, 2, 3, 4] : List Int).getD x.toNat 0 < 5 := by
  obtain h | h | h | h | h | h | h | h : x.toNat = 0 ∨ x.toNat = 1 ∨ x.toNat = 2 ∨ x.toNat = 3 ∨ x.toNat = 4 ∨ x.toNat = 5 ∨ x.toNat = 6 ∨ 7 ≤ x.toNat := by omega
  all_goals first | (rw [h]; decide) | (rw [List.getD_eq_getElem?_getD, List.getElem?_eq_none (by simpa using h)]; decide)
def five17 (y : Int) : Int := ([24, 48, 12, 0, 769] : List Int).getD y.toNat 0
theorem five17_bd {y : Int} : 0 ≤ five17 y ∧ five17 y ≤ 769 := by
  unfold five17
  obtain h | h | h | h | h | h : y.toNat = 0 ∨ y.toNat = 1 ∨ y.toNat = 2 ∨ y.toNat = 3 ∨ y.toNat = 4 ∨ 5 ≤ y.toNat := by omega
  all_goals first | (rw [h]; decide) | (rw [List.getD_eq_getElem?_getD, List.getElem?_eq_none (by simpa using h)]; decide)
def ivS17 (x : Int) : Int := ([0, 4, -7, 2] : List Int).getD x.toNat 0
def ivH17 (x : Int) : Int := ([0, 7, -12, 4] : List Int).getD x.toNat 0
theorem ivS17_bd {x : Int} : (-100 ≤ ivS17 x ∧ ivS17 x ≤ 100) ∧ (-9223372036854775807 ≤ ivH17 x ∧ ivH17 x ≤ 9223372036854775807) := by
  unfold ivS17 ivH17
  obtain h | h | h | h | h : x.toNat = 0 ∨ x.toNat = 1 ∨ x.toNat = 2 ∨ x.toNat = 3 ∨ 4 ≤ x.toNat := by omega
  all_goals first | (rw [h]; decide) | (simp only [List.getD_eq_getElem?_getD, List.getElem?_eq_none (show ([0, 4, -7, 2] : List Int).length ≤ x.toNat by simpa using h), List.getElem?_eq_none (show ([0, 7, -12, 4] : List Int).length ≤ x.toNat by simpa using h)]; decide)
theorem ivs17 {n b : Nat} {B : World → Prop} {w : World} {L : List Item} {x : Int} (h : Own n B w L) (hm : Item.blk b [.int .i64 0, .int .i64 0, .int .i64 4, .int .i64 7, .int .i64 (-7), .int .i64 (-12), .int .i64 2, .int .i64 4] ∈ L) (x0 : 0 ≤ x) (x1 : x < 4) :
    w.cell? ⟨b, x.toNat * 2, none⟩ = some (.int .i64 (ivS17 x)) ∧ w.cell? ⟨b, x.toNat * 2 + 1, none⟩ = some (.int .i64 (ivH17 x)) := by
  have hc := h.cells hm
  unfold ivS17 ivH17
  obtain e | e | e | e : x.toNat = 0 ∨ x.toNat = 1 ∨ x.toNat = 2 ∨ x.toNat = 3 := by omega
  · rw [e]; exact ⟨hc.get (j := 0) rfl, hc.get (j := 1) rfl⟩
  · rw [e]; exact ⟨hc.get (j := 2) rfl, hc.get (j := 3) rfl⟩
  · rw [e]; exact ⟨hc.get (j := 4) rfl, hc.get (j := 5) rfl⟩
  · rw [e]; exact ⟨hc.get (j := 6) rfl, hc.get (j := 7) rfl⟩

def blk17 : Value → Nat
  | .slice (some p) _ _ => p.block
  | _ => 0
def int17 (lo hi : Int) (v : Value) : Prop := ∃ x : Int, lo ≤ x ∧ x ≤ hi ∧ v = .int .i64 x
theorem int17_mk {lo hi x : Int} (h0 : lo ≤ x) (h1 : x ≤ hi) : int17 lo hi (.int .i64 x) := ⟨x, h0, h1, rfl⟩
theorem own_two17 {n : Nat} {B : World → Prop} {w : World} {L : List Item} {x y : Item} (h : Own n B w L) (hx : x ∈ L) (hy : y ∈ L) (hne : y ≠ x) : Own n B w [x, y] := by
  obtain ⟨L1, L2, rfl⟩ := List.append_of_mem hx
  have hy2 : y ∈ L1 ++ L2 := by
    rcases List.mem_append.1 hy with g | g
    · exact List.mem_append_left _ g
    · rcases List.mem_cons.1 g with g | g
      · exact absurd g hne
      · exact List.mem_append_right _ g
  exact Own.sub (.cons_cons _ (List.singleton_sublist.2 hy2)) (h.perm List.perm_middle)
/-- What is owned while the operations come up. -/
def ow17 (n : Nat) (B : World → Prop) (va : Value) (vs : List Nt) (q : Nat) (l : Nat → Bool) (u : Nat → Value) (w : World) (L : List Item) : Prop :=
  Own n B w L ∧ (.row 53 6 va vs.length (vcC vs)) ∈ L ∧ .blk q [.int .i64 0, .int .i64 0] ∈ L ∧ (l 1 = true → .blk (blk17 (u 1)) ([24, 48, 12, 0, 769].map (Value.int .i64)) ∈ L) ∧ (l 2 = true → .blk (blk17 (u 2)) ([0, 0, 1, 1, 2, 3, 4].map (Value.int .i64)) ∈ L) ∧
    (l 13 = true → .blk (blk17 (u 13)) [.int .i64 0, .int .i64 0, .int .i64 4, .int .i64 7, .int .i64 (-7), .int .i64 (-12), .int .i64 2, .int .i64 4] ∈ L) ∧ (l 15 = false → ∀ x ∈ L, numHead16 x ∨ x = (.row 53 6 va vs.length (vcC vs)))
/-- What holds whatever has come up. -/
structure VI17 (n r q : Nat) (B : World → Prop) (va : Value) (vs : List Nt) (l : Nat → Bool) (u : Nat → Value) (w : World) : Prop where
  c0 : l 0 = true → u 0 = va
  c1 : l 1 = true → ∃ b, u 1 = .slice (some ⟨b, 0, none⟩) 5 5
  c2 : l 2 = true → ∃ b, u 2 = .slice (some ⟨b, 0, none⟩) 7 7
  c3 : l 3 = true → u 3 = .pointer (some ⟨r, 0, none⟩)
  c4 : l 4 = true → int17 0 6 (u 4)
  c5 : l 5 = true → l 2 = true ∧ ∃ x : Int, 0 ≤ x ∧ x < 7 ∧ u 5 = .pointer (some ⟨blk17 (u 2), x.toNat, none⟩)
  c6 : l 6 = true → int17 0 4 (u 6)
  c7 : l 7 = true → l 1 = true ∧ ∃ x : Int, 0 ≤ x ∧ x < 5 ∧ u 7 = .pointer (some ⟨blk17 (u 1), x.toNat, none⟩)
  c8 : l 8 = true → int17 0 769 (u 8)
  c9 : l 9 = true → u 9 = .agg #[.int .i64 0, .int .i64 0]
  c10 : l 10 = true → u 10 = .agg #[.int .i64 4, .int .i64 7]
  c11 : l 11 = true → u 11 = .agg #[.int .i64 (-7), .int .i64 (-12)]
  c12 : l 12 = true → u 12 = .agg #[.int .i64 2, .int .i64 4]
  c13 : l 13 = true → ∃ b, u 13 = .slice (some ⟨b, 0, none⟩) 4 4
  c14 : l 14 = true → u 14 = .pointer (some ⟨r, 0, none⟩)
  c15 : l 15 = true → int17 0 3 (u 15)
  c16 : l 16 = true → l 13 = true ∧ ∃ x : Int, 0 ≤ x ∧ x < 4 ∧ u 16 = .pointer (some ⟨blk17 (u 13), x.toNat * 2, none⟩)
  c17 : l 17 = true → ∃ st ha : Int, (-100 ≤ st ∧ st ≤ 100) ∧ (-9223372036854775807 ≤ ha ∧ ha ≤ 9223372036854775807) ∧ u 17 = .agg #[.int .i64 st, .int .i64 ha]
  c18 : l 18 = true → u 18 = va
  c19 : l 19 = true → int17 0 769 (u 19)
  p15 : l 15 = true → l 4 = true
  p20 : l 20 = true → ∀ j, j < 20 → l j = true
  rd : l 15 = false → Rd w r (500 + 100 * (if l 4 = true then 1 else 0))
  own : l 20 = false → ∃ L, ow17 n B va vs q l u w L
  fin : l 20 = true → ∃ st ha : Int, (-100 ≤ st ∧ st ≤ 100) ∧ (-9223372036854775807 ≤ ha ∧ ha ≤ 9223372036854775807) ∧ Own n B w [.blk q [.int .i64 st, .int .i64 ha], (.row 53 6 va vs.length (vcC vs))]
theorem VI17.not20 {n r q : Nat} {B : World → Prop} {va : Value} {vs : List Nt} {l : Nat → Bool} {u : Nat → Value} {w : World} (h : VI17 n r q B va vs l u w) {i : Nat} (hi : i < 20) (hl : l i = false) : l 20 = false := by
  cases hh : l 20
  · rfl
  · have := h.p20 hh i hi
    rw [hl] at this; cases this

set_option maxRecDepth 20000 in
set_option maxHeartbeats 8000000 in
theorem DrawCanonDelays_any (v : Value) (n : Nat) (w : World) (hn : n ≤ maxLen) (h : BytesB w w.heap.size v n) :
    Calls Tryd.prog 37 #[v] w (DrewVd w) := by
  have hO := Own.start w
  have hF := True.intro
  go_enter Tryd.func37, Tryd.ntmps37
  go_wp2_with fail
  apply own_at hO
  (repeat (first | (with_reducible exact hO) | (with_reducible apply Own.alloc) | (with_reducible apply Own.drew) | ((with_reducible apply Own.set_at); (focus (show _ ≤ _; omega)))))
  intro hO1
  refine (open_any v n _ hn (h.alloc _)).mono ?_
  rintro e w1 ⟨r, hr, rfl, hR, hb⟩
  have hne := hO1.ne_of hr
  have hr0 := Nat.le_trans hO1.low hr
  replace hO := hO1.below hb
  have hrl := hR.lt
  clear hO1 hb h hn
  go_wp2_with fail
  refine (l20Voice_any r 0 _ _ hR (by omega) (by omega) (by omega)).mono ?_
  rintro e w2 ⟨u, vs, hv, hl, rfl, ho, hR2, hB2⟩
  have hO2 := (hO.drawn hB2 hr0 hne).joinRow ho (Nat.le_trans hr0 (Nat.le_of_lt hrl)) (fun x hx g hg => by have := (hO.lt x hx g hg).2; exact this)
  have HU0 := hid (show (Item.row 53 6 u vs.length (vcC vs)).at? ≠ some r from fun e => by
    have := (World.ownsRow.lt ho r e).1; omega)
  have HV := hid (And.intro hv hl)
  clear hR hB2 hO hne ho hv hl
  have hO := hO2
  have hX : Rd w2 r (500 + 100 * 0) := hR2.mono (by omega)
  clear hO2 hR2
  have hG := hF
  (try simp only [World.size_alloc1, World.size_drew, Nat.reduceAdd] at hO); (try simp only [upd, updI, List.map_cons, List.map_nil, eq_self, if_true, if_false, reduceIte, Nat.add_eq_left, Nat.left_eq_add, Nat.reduceEqDiff, List.set_cons_zero, List.set_cons_succ, hG] at hO); clear hG
  clear hF
  have hF := True.intro
  go_wp2_with fail
  clear hF
  have hU0 := HU0.out
  have hUq : Item.at? (.row 53 6 u vs.length (vcC vs)) ≠ some w.heap.size := fun e => (hO.1.2 (.blk w.heap.size [.int .i64 0, .int .i64 0]) (by simp)).to w.heap.size rfl e
  obtain ⟨va, hva⟩ : ∃ x, u = x := ⟨_, rfl⟩
  rw [hva] at hU0 hUq hO ⊢
  have HVA := hid hva
  clear hva
  obtain ⟨q, hq⟩ : ∃ x, w.heap.size = x := ⟨_, rfl⟩
  have HQ := hid hq
  have hqn : w.heap.size ≤ q := by omega
  have hO9 : Own w.heap.size (Below w.heap.size w) w2 [(.row 53 6 va vs.length (vcC vs)), .blk q [.int .i64 0, .int .i64 0]] := by rw [← hq]; exact hO
  rw [show (Value.pointer (some ⟨w.heap.size, 0, none⟩)) = .pointer (some ⟨q, 0, none⟩) by rw [hq]]
  rw [hq] at hUq
  clear hO hq
  refine region_inv [some 11, some 12, some 13, some 14, some 15, some 16, some 17, some 18, some 19, some 20, some 21, some 22, some 23, some 24, some 25, some 26, some 27, some 28, some 2, some 3, none] (fun i => if i = 18 then .slice none 0 0 else if i = 19 then .int .i64 0 else undef) (VI17 w.heap.size r q (Below w.heap.size w) va vs) [(0, []), (1, []), (2, []), (3, []), (4, [3]), (5, [2, 4]), (6, [5]), (7, [1, 6]), (8, [7]), (9, []), (10, []), (11, []), (12, []), (13, [9, 10, 11, 12]), (14, []), (15, [14, 4]), (16, [13, 15]), (17, [16]), (18, [0, 15, 0]), (19, [8, 18, 0, 1, 2, 3, 4, 5, 6, 7, 8, 18]), (20, [17, 19, 0, 1, 2, 3, 4, 5, 6, 7, 8, 9, 10, 11, 12, 13, 14, 15, 16, 17, 18, 19])] (by kernel_rfl) (by kernel_rfl) (by decide) ?_ ?_ ?_ ?_
  · simp [putsU, Act.put]
  · exact ⟨by simp, by simp, by simp, by simp, by simp, by simp, by simp, by simp, by simp, by simp, by simp, by simp, by simp, by simp, by simp, by simp, by simp, by simp, by simp, by simp, by simp, by simp, fun _ => by simpa using hX.below (below_drew1 w2), fun _ => ⟨_, hO9.drew, by simp, by simp, by simp, by simp, by simp, fun _ x hx => by simp at hx; rcases hx with rfl | rfl; exact Or.inr rfl; exact Or.inl trivial⟩, by simp⟩
  · clear hO9 hX
    refine AllR.cons ?_ ?_
    · intro l u w1 hl hp h K hK
      have h20 := h.not20 (i := 0) (by omega) hl
      obtain ⟨L, o1, o2, o3, o4, o5, o6, o7⟩ := h.own h20
      refine wpOp_plain rfl (by rfl) ?_
      simp only [putsU, Act.put, List.setIfInBounds_toArray, List.set_cons_zero, List.set_cons_succ]
      go_simp
      have hh := hK (va) w1 ⟨fun _ => by simp [updU], by simpa [updL, updU] using h.c1, by simpa [updL, updU] using h.c2, by simpa [updL, updU] using h.c3, by simpa [updL, updU] using h.c4, by simpa [updL, updU] using h.c5, by simpa [updL, updU] using h.c6, by simpa [updL, updU] using h.c7, by simpa [updL, updU] using h.c8, by simpa [updL, updU] using h.c9, by simpa [updL, updU] using h.c10, by simpa [updL, updU] using h.c11, by simpa [updL, updU] using h.c12, by simpa [updL, updU] using h.c13, by simpa [updL, updU] using h.c14, by simpa [updL, updU] using h.c15, by simpa [updL, updU] using h.c16, by simpa [updL, updU] using h.c17, by simpa [updL, updU] using h.c18, by simpa [updL, updU] using h.c19, by simpa [updL] using h.p15, fun h6 => absurd (show l 20 = true by simpa [updL] using h6) (by rw [h20]; decide), by simpa [updL] using h.rd, fun _ => ⟨L, o1, o2, o3, by simpa [updL, updU] using o4, by simpa [updL, updU] using o5, by simpa [updL, updU] using o6, by simpa [updL] using o7⟩, fun h6 => absurd (show l 20 = true by simpa [updL] using h6) (by rw [h20]; decide)⟩
      simp only [putsU, updU, Act.put, List.setIfInBounds_toArray, List.set_cons_zero, List.set_cons_succ, Nat.reduceEqDiff, reduceIte, reduceCtorEq, if_true, if_false, Nat.zero_ne_one, Nat.one_ne_zero] at hh
      exact hh
    refine AllR.cons ?_ ?_
    · intro l u w1 hl hp h K hK
      have h20 := h.not20 (i := 1) (by omega) hl
      obtain ⟨L, o1, o2, o3, o4, o5, o6, o7⟩ := h.own h20
      refine wpOp_plain rfl (by rfl) ?_
      simp only [putsU, Act.put, List.setIfInBounds_toArray, List.set_cons_zero, List.set_cons_succ]
      go_simp
      have hh := hK (.slice (some ⟨w1.heap.size, 0, none⟩) 5 5) (w1.alloc (.cells ([24, 48, 12, 0, 769].map (Value.int .i64)).toArray 3)) ⟨by simpa [updL, updU] using h.c0, fun _ => ⟨w1.heap.size, by simp [updU]⟩, by simpa [updL, updU] using h.c2, by simpa [updL, updU] using h.c3, by simpa [updL, updU] using h.c4, by simpa [updL, updU] using h.c5, by simpa [updL, updU] using h.c6, fun h6 => absurd (h.c7 (by simpa [updL] using h6)).1 (by rw [hl]; decide), by simpa [updL, updU] using h.c8, by simpa [updL, updU] using h.c9, by simpa [updL, updU] using h.c10, by simpa [updL, updU] using h.c11, by simpa [updL, updU] using h.c12, by simpa [updL, updU] using h.c13, by simpa [updL, updU] using h.c14, by simpa [updL, updU] using h.c15, by simpa [updL, updU] using h.c16, by simpa [updL, updU] using h.c17, by simpa [updL, updU] using h.c18, by simpa [updL, updU] using h.c19, by simpa [updL] using h.p15, fun h6 => absurd (show l 20 = true by simpa [updL] using h6) (by rw [h20]; decide), fun h6 => by have := (h.rd (by simpa [updL] using h6)).below (below1 (w := w1) (.cells ([24, 48, 12, 0, 769].map (Value.int .i64)).toArray 3)); simpa [updL] using this, fun _ => ⟨.blk w1.heap.size ([24, 48, 12, 0, 769].map (Value.int .i64)) :: L, o1.alloc (t := 3) (vs := [24, 48, 12, 0, 769].map (Value.int .i64)), List.mem_cons_of_mem _ o2, List.mem_cons_of_mem _ o3, fun _ => by simp [updU, blk17], fun h6 => List.mem_cons_of_mem _ (by simpa [updU] using o5 (by simpa [updL] using h6)), fun h6 => List.mem_cons_of_mem _ (by simpa [updU] using o6 (by simpa [updL] using h6)), fun h6 x hx => by
          rcases List.mem_cons.1 hx with rfl | hx
          · exact Or.inl trivial
          · exact o7 (by simpa [updL] using h6) x hx⟩, fun h6 => absurd (show l 20 = true by simpa [updL] using h6) (by rw [h20]; decide)⟩
      simp only [putsU, updU, Act.put, List.setIfInBounds_toArray, List.set_cons_zero, List.set_cons_succ, Nat.reduceEqDiff, reduceIte, reduceCtorEq, if_true, if_false, Nat.zero_ne_one, Nat.one_ne_zero] at hh
      exact hh
    refine AllR.cons ?_ ?_
    · intro l u w1 hl hp h K hK
      have h20 := h.not20 (i := 2) (by omega) hl
      obtain ⟨L, o1, o2, o3, o4, o5, o6, o7⟩ := h.own h20
      refine wpOp_plain rfl (by rfl) ?_
      simp only [putsU, Act.put, List.setIfInBounds_toArray, List.set_cons_zero, List.set_cons_succ]
      go_simp
      have hh := hK (.slice (some ⟨w1.heap.size, 0, none⟩) 7 7) (w1.alloc (.cells ([0, 0, 1, 1, 2, 3, 4].map (Value.int .i64)).toArray 3)) ⟨by simpa [updL, updU] using h.c0, by simpa [updL, updU] using h.c1, fun _ => ⟨w1.heap.size, by simp [updU]⟩, by simpa [updL, updU] using h.c3, by simpa [updL, updU] using h.c4, fun h6 => absurd (h.c5 (by simpa [updL] using h6)).1 (by rw [hl]; decide), by simpa [updL, updU] using h.c6, by simpa [updL, updU] using h.c7, by simpa [updL, updU] using h.c8, by simpa [updL, updU] using h.c9, by simpa [updL, updU] using h.c10, by simpa [updL, updU] using h.c11, by simpa [updL, updU] using h.c12, by simpa [updL, updU] using h.c13, by simpa [updL, updU] using h.c14, by simpa [updL, updU] using h.c15, by simpa [updL, updU] using h.c16, by simpa [updL, updU] using h.c17, by simpa [updL, updU] using h.c18, by simpa [updL, updU] using h.c19, by simpa [updL] using h.p15, fun h6 => absurd (show l 20 = true by simpa [updL] using h6) (by rw [h20]; decide), fun h6 => by have := (h.rd (by simpa [updL] using h6)).below (below1 (w := w1) (.cells ([0, 0, 1, 1, 2, 3, 4].map (Value.int .i64)).toArray 3)); simpa [updL] using this, fun _ => ⟨.blk w1.heap.size ([0, 0, 1, 1, 2, 3, 4].map (Value.int .i64)) :: L, o1.alloc (t := 3) (vs := [0, 0, 1, 1, 2, 3, 4].map (Value.int .i64)), List.mem_cons_of_mem _ o2, List.mem_cons_of_mem _ o3, fun h6 => List.mem_cons_of_mem _ (by simpa [updU] using o4 (by simpa [updL] using h6)), fun _ => by simp [updU, blk17], fun h6 => List.mem_cons_of_mem _ (by simpa [updU] using o6 (by simpa [updL] using h6)), fun h6 x hx => by
          rcases List.mem_cons.1 hx with rfl | hx
          · exact Or.inl trivial
          · exact o7 (by simpa [updL] using h6) x hx⟩, fun h6 => absurd (show l 20 = true by simpa [updL] using h6) (by rw [h20]; decide)⟩
      simp only [putsU, updU, Act.put, List.setIfInBounds_toArray, List.set_cons_zero, List.set_cons_succ, Nat.reduceEqDiff, reduceIte, reduceCtorEq, if_true, if_false, Nat.zero_ne_one, Nat.one_ne_zero] at hh
      exact hh
    refine AllR.cons ?_ ?_
    · intro l u w1 hl hp h K hK
      have h20 := h.not20 (i := 3) (by omega) hl
      obtain ⟨L, o1, o2, o3, o4, o5, o6, o7⟩ := h.own h20
      refine wpOp_plain rfl (by rfl) ?_
      simp only [putsU, Act.put, List.setIfInBounds_toArray, List.set_cons_zero, List.set_cons_succ]
      go_simp
      have hh := hK (.pointer (some ⟨r, 0, none⟩)) w1 ⟨by simpa [updL, updU] using h.c0, by simpa [updL, updU] using h.c1, by simpa [updL, updU] using h.c2, fun _ => by simp [updU], by simpa [updL, updU] using h.c4, by simpa [updL, updU] using h.c5, by simpa [updL, updU] using h.c6, by simpa [updL, updU] using h.c7, by simpa [updL, updU] using h.c8, by simpa [updL, updU] using h.c9, by simpa [updL, updU] using h.c10, by simpa [updL, updU] using h.c11, by simpa [updL, updU] using h.c12, by simpa [updL, updU] using h.c13, by simpa [updL, updU] using h.c14, by simpa [updL, updU] using h.c15, by simpa [updL, updU] using h.c16, by simpa [updL, updU] using h.c17, by simpa [updL, updU] using h.c18, by simpa [updL, updU] using h.c19, by simpa [updL] using h.p15, fun h6 => absurd (show l 20 = true by simpa [updL] using h6) (by rw [h20]; decide), by simpa [updL] using h.rd, fun _ => ⟨L, o1, o2, o3, by simpa [updL, updU] using o4, by simpa [updL, updU] using o5, by simpa [updL, updU] using o6, by simpa [updL] using o7⟩, fun h6 => absurd (show l 20 = true by simpa [updL] using h6) (by rw [h20]; decide)⟩
      simp only [putsU, updU, Act.put, List.setIfInBounds_toArray, List.set_cons_zero, List.set_cons_succ, Nat.reduceEqDiff, reduceIte, reduceCtorEq, if_true, if_false, Nat.zero_ne_one, Nat.one_ne_zero] at hh
      exact hh
    refine AllR.cons ?_ ?_
    · intro l u w1 hl hp h K hK
      have h20 := h.not20 (i := 4) (by omega) hl
      obtain ⟨L, o1, o2, o3, o4, o5, o6, o7⟩ := h.own h20
      have e0 := h.c3 (hp 3 (by simp))
      have h15 : l 15 = false := by
          cases hh : l 15
          · rfl
          · have := h.p15 hh; rw [hl] at this; cases this
      have hR := h.rd h15
      rw [if_neg (by rw [hl]; decide)] at hR
      refine wpOp_plain rfl (by rfl) ?_
      simp only [putsU, Act.put, List.setIfInBounds_toArray, List.set_cons_zero, List.set_cons_succ, e0]
      go_simp
      refine (pick_any r (500 + 100 * 0) _ _ hR (by omega) (by decide) (by decide)).mono ?_
      rintro e wa ⟨x, x0, x1, rfl, hR4, hB4⟩
      have hh := hK (.int .i64 x) wa ⟨by simpa [updL, updU] using h.c0, by simpa [updL, updU] using h.c1, by simpa [updL, updU] using h.c2, by simpa [updL, updU] using h.c3, fun _ => by simpa [updU] using int17_mk x0 (by omega), by simpa [updL, updU] using h.c5, by simpa [updL, updU] using h.c6, by simpa [updL, updU] using h.c7, by simpa [updL, updU] using h.c8, by simpa [updL, updU] using h.c9, by simpa [updL, updU] using h.c10, by simpa [updL, updU] using h.c11, by simpa [updL, updU] using h.c12, by simpa [updL, updU] using h.c13, by simpa [updL, updU] using h.c14, by simpa [updL, updU] using h.c15, by simpa [updL, updU] using h.c16, by simpa [updL, updU] using h.c17, by simpa [updL, updU] using h.c18, by simpa [updL, updU] using h.c19, fun h6 => absurd (show l 15 = true by simpa [updL] using h6) (by rw [h15]; decide), fun h6 => absurd (show l 20 = true by simpa [updL] using h6) (by rw [h20]; decide), fun _ => by rw [if_pos (by simp [updL])]; exact hR4.mono (by omega), fun _ => ⟨L, Own.drawn hB4 hr0 (ne_rd16 o1 hR hU0 (o7 h15)) o1, o2, o3, by simpa [updL, updU] using o4, by simpa [updL, updU] using o5, by simpa [updL, updU] using o6, fun _ => o7 h15⟩, fun h6 => absurd (show l 20 = true by simpa [updL] using h6) (by rw [h20]; decide)⟩
      simp only [putsU, updU, Act.put, List.setIfInBounds_toArray, List.set_cons_zero, List.set_cons_succ, Nat.reduceEqDiff, reduceIte, reduceCtorEq, if_true, if_false, Nat.zero_ne_one, Nat.one_ne_zero, e0] at hh
      exact hh
    refine AllR.cons ?_ ?_
    · intro l u w1 hl hp h K hK
      have h20 := h.not20 (i := 5) (by omega) hl
      obtain ⟨L, o1, o2, o3, o4, o5, o6, o7⟩ := h.own h20
      obtain ⟨b, e3⟩ := h.c2 (hp 2 (by simp))
      obtain ⟨x, x0, x1, e5⟩ := h.c4 (hp 4 (by simp))
      have x2 : x < 7 := by omega
      refine wpOp_plain rfl (by rfl) ?_
      simp only [putsU, Act.put, List.setIfInBounds_toArray, List.set_cons_zero, List.set_cons_succ, e3, e5]
      go_simp
      have hh := hK (.pointer (some ⟨b, x.toNat, none⟩)) w1 ⟨by simpa [updL, updU] using h.c0, by simpa [updL, updU] using h.c1, by simpa [updL, updU] using h.c2, by simpa [updL, updU] using h.c3, by simpa [updL, updU] using h.c4, fun _ => ⟨by simpa [updL] using (hp 2 (by simp)), x, x0, x2, by simp [updU, e3, blk17]⟩, by simpa [updL, updU] using h.c6, by simpa [updL, updU] using h.c7, by simpa [updL, updU] using h.c8, by simpa [updL, updU] using h.c9, by simpa [updL, updU] using h.c10, by simpa [updL, updU] using h.c11, by simpa [updL, updU] using h.c12, by simpa [updL, updU] using h.c13, by simpa [updL, updU] using h.c14, by simpa [updL, updU] using h.c15, by simpa [updL, updU] using h.c16, by simpa [updL, updU] using h.c17, by simpa [updL, updU] using h.c18, by simpa [updL, updU] using h.c19, by simpa [updL] using h.p15, fun h6 => absurd (show l 20 = true by simpa [updL] using h6) (by rw [h20]; decide), by simpa [updL] using h.rd, fun _ => ⟨L, o1, o2, o3, by simpa [updL, updU] using o4, by simpa [updL, updU] using o5, by simpa [updL, updU] using o6, by simpa [updL] using o7⟩, fun h6 => absurd (show l 20 = true by simpa [updL] using h6) (by rw [h20]; decide)⟩
      simp only [putsU, updU, Act.put, List.setIfInBounds_toArray, List.set_cons_zero, List.set_cons_succ, Nat.reduceEqDiff, reduceIte, reduceCtorEq, if_true, if_false, Nat.zero_ne_one, Nat.one_ne_zero, e3, e5] at hh
      exact hh
    refine AllR.cons ?_ ?_
    · intro l u w1 hl hp h K hK
      have h20 := h.not20 (i := 6) (by omega) hl
      obtain ⟨L, o1, o2, o3, o4, o5, o6, o7⟩ := h.own h20
      obtain ⟨h3, x, x0, x1, e6⟩ := h.c5 (hp 5 (by simp))
      have hc := o1.int_at (x := x) [0, 0, 1, 1, 2, 3, 4] (o5 h3) x0 (by simpa using x1)
      have hb := seven17 x
      generalize ([0, 0, 1, 1, 2, 3, 4] : List Int).getD x.toNat 0 = y at hc hb
      refine wpOp_plain rfl (by rfl) ?_
      simp only [putsU, Act.put, List.setIfInBounds_toArray, List.set_cons_zero, List.set_cons_succ, e6]
      go_simp
      have hh := hK (.int .i64 y) w1 ⟨by simpa [updL, updU] using h.c0, by simpa [updL, updU] using h.c1, by simpa [updL, updU] using h.c2, by simpa [updL, updU] using h.c3, by simpa [updL, updU] using h.c4, by simpa [updL, updU] using h.c5, fun _ => by simpa [updU] using int17_mk hb.1 (by omega), by simpa [updL, updU] using h.c7, by simpa [updL, updU] using h.c8, by simpa [updL, updU] using h.c9, by simpa [updL, updU] using h.c10, by simpa [updL, updU] using h.c11, by simpa [updL, updU] using h.c12, by simpa [updL, updU] using h.c13, by simpa [updL, updU] using h.c14, by simpa [updL, updU] using h.c15, by simpa [updL, updU] using h.c16, by simpa [updL, updU] using h.c17, by simpa [updL, updU] using h.c18, by simpa [updL, updU] using h.c19, by simpa [updL] using h.p15, fun h6 => absurd (show l 20 = true by simpa [updL] using h6) (by rw [h20]; decide), by simpa [updL] using h.rd, fun _ => ⟨L, o1, o2, o3, by simpa [updL, updU] using o4, by simpa [updL, updU] using o5, by simpa [updL, updU] using o6, by simpa [updL] using o7⟩, fun h6 => absurd (show l 20 = true by simpa [updL] using h6) (by rw [h20]; decide)⟩
      simp only [putsU, updU, Act.put, List.setIfInBounds_toArray, List.set_cons_zero, List.set_cons_succ, Nat.reduceEqDiff, reduceIte, reduceCtorEq, if_true, if_false, Nat.zero_ne_one, Nat.one_ne_zero, e6] at hh
      exact hh
    refine AllR.cons ?_ ?_
    · intro l u w1 hl hp h K hK
      have h20 := h.not20 (i := 7) (by omega) hl
      obtain ⟨L, o1, o2, o3, o4, o5, o6, o7⟩ := h.own h20
      obtain ⟨b, e3⟩ := h.c1 (hp 1 (by simp))
      obtain ⟨x, x0, x1, e5⟩ := h.c6 (hp 6 (by simp))
      have x2 : x < 5 := by omega
      refine wpOp_plain rfl (by rfl) ?_
      simp only [putsU, Act.put, List.setIfInBounds_toArray, List.set_cons_zero, List.set_cons_succ, e3, e5]
      go_simp
      have hh := hK (.pointer (some ⟨b, x.toNat, none⟩)) w1 ⟨by simpa [updL, updU] using h.c0, by simpa [updL, updU] using h.c1, by simpa [updL, updU] using h.c2, by simpa [updL, updU] using h.c3, by simpa [updL, updU] using h.c4, by simpa [updL, updU] using h.c5, by simpa [updL, updU] using h.c6, fun _ => ⟨by simpa [updL] using (hp 1 (by simp)), x, x0, x2, by simp [updU, e3, blk17]⟩, by simpa [updL, updU] using h.c8, by simpa [updL, updU] using h.c9, by simpa [updL, updU] using h.c10, by simpa [updL, updU] using h.c11, by simpa [updL, updU] using h.c12, by simpa [updL, updU] using h.c13, by simpa [updL, updU] using h.c14, by simpa [updL, updU] using h.c15, by simpa [updL, updU] using h.c16, by simpa [updL, updU] using h.c17, by simpa [updL, updU] using h.c18, by simpa [updL, updU] using h.c19, by simpa [updL] using h.p15, fun h6 => absurd (show l 20 = true by simpa [updL] using h6) (by rw [h20]; decide), by simpa [updL] using h.rd, fun _ => ⟨L, o1, o2, o3, by simpa [updL, updU] using o4, by simpa [updL, updU] using o5, by simpa [updL, updU] using o6, by simpa [updL] using o7⟩, fun h6 => absurd (show l 20 = true by simpa [updL] using h6) (by rw [h20]; decide)⟩
      simp only [putsU, updU, Act.put, List.setIfInBounds_toArray, List.set_cons_zero, List.set_cons_succ, Nat.reduceEqDiff, reduceIte, reduceCtorEq, if_true, if_false, Nat.zero_ne_one, Nat.one_ne_zero, e3, e5] at hh
      exact hh
    refine AllR.cons ?_ ?_
    · intro l u w1 hl hp h K hK
      have h20 := h.not20 (i := 8) (by omega) hl
      obtain ⟨L, o1, o2, o3, o4, o5, o6, o7⟩ := h.own h20
      obtain ⟨h3, x, x0, x1, e6⟩ := h.c7 (hp 7 (by simp))
      have hc := o1.int_at (x := x) [24, 48, 12, 0, 769] (o4 h3) x0 (by simpa using x1)
      have hb : 0 ≤ ([24, 48, 12, 0, 769] : List Int).getD x.toNat 0 ∧ ([24, 48, 12, 0, 769] : List Int).getD x.toNat 0 ≤ 769 := five17_bd (y := x)
      generalize ([24, 48, 12, 0, 769] : List Int).getD x.toNat 0 = y at hc hb
      refine wpOp_plain rfl (by rfl) ?_
      simp only [putsU, Act.put, List.setIfInBounds_toArray, List.set_cons_zero, List.set_cons_succ, e6]
      go_simp
      have hh := hK (.int .i64 y) w1 ⟨by simpa [updL, updU] using h.c0, by simpa [updL, updU] using h.c1, by simpa [updL, updU] using h.c2, by simpa [updL, updU] using h.c3, by simpa [updL, updU] using h.c4, by simpa [updL, updU] using h.c5, by simpa [updL, updU] using h.c6, by simpa [updL, updU] using h.c7, fun _ => by simpa [updU] using int17_mk hb.1 (by omega), by simpa [updL, updU] using h.c9, by simpa [updL, updU] using h.c10, by simpa [updL, updU] using h.c11, by simpa [updL, updU] using h.c12, by simpa [updL, updU] using h.c13, by simpa [updL, updU] using h.c14, by simpa [updL, updU] using h.c15, by simpa [updL, updU] using h.c16, by simpa [updL, updU] using h.c17, by simpa [updL, updU] using h.c18, by simpa [updL, updU] using h.c19, by simpa [updL] using h.p15, fun h6 => absurd (show l 20 = true by simpa [updL] using h6) (by rw [h20]; decide), by simpa [updL] using h.rd, fun _ => ⟨L, o1, o2, o3, by simpa [updL, updU] using o4, by simpa [updL, updU] using o5, by simpa [updL, updU] using o6, by simpa [updL] using o7⟩, fun h6 => absurd (show l 20 = true by simpa [updL] using h6) (by rw [h20]; decide)⟩
      simp only [putsU, updU, Act.put, List.setIfInBounds_toArray, List.set_cons_zero, List.set_cons_succ, Nat.reduceEqDiff, reduceIte, reduceCtorEq, if_true, if_false, Nat.zero_ne_one, Nat.one_ne_zero, e6] at hh
      exact hh
    refine AllR.cons ?_ ?_
    · intro l u w1 hl hp h K hK
      have h20 := h.not20 (i := 9) (by omega) hl
      obtain ⟨L, o1, o2, o3, o4, o5, o6, o7⟩ := h.own h20
      refine wpOp_plain rfl (by rfl) ?_
      simp only [putsU, Act.put, List.setIfInBounds_toArray, List.set_cons_zero, List.set_cons_succ]
      go_simp
      have hh := hK (.agg #[.int .i64 0, .int .i64 0]) w1 ⟨by simpa [updL, updU] using h.c0, by simpa [updL, updU] using h.c1, by simpa [updL, updU] using h.c2, by simpa [updL, updU] using h.c3, by simpa [updL, updU] using h.c4, by simpa [updL, updU] using h.c5, by simpa [updL, updU] using h.c6, by simpa [updL, updU] using h.c7, by simpa [updL, updU] using h.c8, fun _ => by simp [updU], by simpa [updL, updU] using h.c10, by simpa [updL, updU] using h.c11, by simpa [updL, updU] using h.c12, by simpa [updL, updU] using h.c13, by simpa [updL, updU] using h.c14, by simpa [updL, updU] using h.c15, by simpa [updL, updU] using h.c16, by simpa [updL, updU] using h.c17, by simpa [updL, updU] using h.c18, by simpa [updL, updU] using h.c19, by simpa [updL] using h.p15, fun h6 => absurd (show l 20 = true by simpa [updL] using h6) (by rw [h20]; decide), by simpa [updL] using h.rd, fun _ => ⟨L, o1, o2, o3, by simpa [updL, updU] using o4, by simpa [updL, updU] using o5, by simpa [updL, updU] using o6, by simpa [updL] using o7⟩, fun h6 => absurd (show l 20 = true by simpa [updL] using h6) (by rw [h20]; decide)⟩
      simp only [putsU, updU, Act.put, List.setIfInBounds_toArray, List.set_cons_zero, List.set_cons_succ, Nat.reduceEqDiff, reduceIte, reduceCtorEq, if_true, if_false, Nat.zero_ne_one, Nat.one_ne_zero] at hh
      exact hh
    refine AllR.cons ?_ ?_
    · intro l u w1 hl hp h K hK
      have h20 := h.not20 (i := 10) (by omega) hl
      obtain ⟨L, o1, o2, o3, o4, o5, o6, o7⟩ := h.own h20
      refine wpOp_plain rfl (by rfl) ?_
      simp only [putsU, Act.put, List.setIfInBounds_toArray, List.set_cons_zero, List.set_cons_succ]
      go_simp
      have hh := hK (.agg #[.int .i64 4, .int .i64 7]) w1 ⟨by simpa [updL, updU] using h.c0, by simpa [updL, updU] using h.c1, by simpa [updL, updU] using h.c2, by simpa [updL, updU] using h.c3, by simpa [updL, updU] using h.c4, by simpa [updL, updU] using h.c5, by simpa [updL, updU] using h.c6, by simpa [updL, updU] using h.c7, by simpa [updL, updU] using h.c8, by simpa [updL, updU] using h.c9, fun _ => by simp [updU], by simpa [updL, updU] using h.c11, by simpa [updL, updU] using h.c12, by simpa [updL, updU] using h.c13, by simpa [updL, updU] using h.c14, by simpa [updL, updU] using h.c15, by simpa [updL, updU] using h.c16, by simpa [updL, updU] using h.c17, by simpa [updL, updU] using h.c18, by simpa [updL, updU] using h.c19, by simpa [updL] using h.p15, fun h6 => absurd (show l 20 = true by simpa [updL] using h6) (by rw [h20]; decide), by simpa [updL] using h.rd, fun _ => ⟨L, o1, o2, o3, by simpa [updL, updU] using o4, by simpa [updL, updU] using o5, by simpa [updL, updU] using o6, by simpa [updL] using o7⟩, fun h6 => absurd (show l 20 = true by simpa [updL] using h6) (by rw [h20]; decide)⟩
      simp only [putsU, updU, Act.put, List.setIfInBounds_toArray, List.set_cons_zero, List.set_cons_succ, Nat.reduceEqDiff, reduceIte, reduceCtorEq, if_true, if_false, Nat.zero_ne_one, Nat.one_ne_zero] at hh
      exact hh
    refine AllR.cons ?_ ?_
    · intro l u w1 hl hp h K hK
      have h20 := h.not20 (i := 11) (by omega) hl
      obtain ⟨L, o1, o2, o3, o4, o5, o6, o7⟩ := h.own h20
      refine wpOp_plain rfl (by rfl) ?_
      simp only [putsU, Act.put, List.setIfInBounds_toArray, List.set_cons_zero, List.set_cons_succ]
      go_simp
      have hh := hK (.agg #[.int .i64 (-7), .int .i64 (-12)]) w1 ⟨by simpa [updL, updU] using h.c0, by simpa [updL, updU] using h.c1, by simpa [updL, updU] using h.c2, by simpa [updL, updU] using h.c3, by simpa [updL, updU] using h.c4, by simpa [updL, updU] using h.c5, by simpa [updL, updU] using h.c6, by simpa [updL, updU] using h.c7, by simpa [updL, updU] using h.c8, by simpa [updL, updU] using h.c9, by simpa [updL, updU] using h.c10, fun _ => by simp [updU], by simpa [updL, updU] using h.c12, by simpa [updL, updU] using h.c13, by simpa [updL, updU] using h.c14, by simpa [updL, updU] using h.c15, by simpa [updL, updU] using h.c16, by simpa [updL, updU] using h.c17, by simpa [updL, updU] using h.c18, by simpa [updL, updU] using h.c19, by simpa [updL] using h.p15, fun h6 => absurd (show l 20 = true by simpa [updL] using h6) (by rw [h20]; decide), by simpa [updL] using h.rd, fun _ => ⟨L, o1, o2, o3, by simpa [updL, updU] using o4, by simpa [updL, updU] using o5, by simpa [updL, updU] using o6, by simpa [updL] using o7⟩, fun h6 => absurd (show l 20 = true by simpa [updL] using h6) (by rw [h20]; decide)⟩
      simp only [putsU, updU, Act.put, List.setIfInBounds_toArray, List.set_cons_zero, List.set_cons_succ, Nat.reduceEqDiff, reduceIte, reduceCtorEq, if_true, if_false, Nat.zero_ne_one, Nat.one_ne_zero] at hh
      exact hh
    refine AllR.cons ?_ ?_
    · intro l u w1 hl hp h K hK
      have h20 := h.not20 (i := 12) (by omega) hl
      obtain ⟨L, o1, o2, o3, o4, o5, o6, o7⟩ := h.own h20
      refine wpOp_plain rfl (by rfl) ?_
      simp only [putsU, Act.put, List.setIfInBounds_toArray, List.set_cons_zero, List.set_cons_succ]
      go_simp
      have hh := hK (.agg #[.int .i64 2, .int .i64 4]) w1 ⟨by simpa [updL, updU] using h.c0, by simpa [updL, updU] using h.c1, by simpa [updL, updU] using h.c2, by simpa [updL, updU] using h.c3, by simpa [updL, updU] using h.c4, by simpa [updL, updU] using h.c5, by simpa [updL, updU] using h.c6, by simpa [updL, updU] using h.c7, by simpa [updL, updU] using h.c8, by simpa [updL, updU] using h.c9, by simpa [updL, updU] using h.c10, by simpa [updL, updU] using h.c11, fun _ => by simp [updU], by simpa [updL, updU] using h.c13, by simpa [updL, updU] using h.c14, by simpa [updL, updU] using h.c15, by simpa [updL, updU] using h.c16, by simpa [updL, updU] using h.c17, by simpa [updL, updU] using h.c18, by simpa [updL, updU] using h.c19, by simpa [updL] using h.p15, fun h6 => absurd (show l 20 = true by simpa [updL] using h6) (by rw [h20]; decide), by simpa [updL] using h.rd, fun _ => ⟨L, o1, o2, o3, by simpa [updL, updU] using o4, by simpa [updL, updU] using o5, by simpa [updL, updU] using o6, by simpa [updL] using o7⟩, fun h6 => absurd (show l 20 = true by simpa [updL] using h6) (by rw [h20]; decide)⟩
      simp only [putsU, updU, Act.put, List.setIfInBounds_toArray, List.set_cons_zero, List.set_cons_succ, Nat.reduceEqDiff, reduceIte, reduceCtorEq, if_true, if_false, Nat.zero_ne_one, Nat.one_ne_zero] at hh
      exact hh
    refine AllR.cons ?_ ?_
    · intro l u w1 hl hp h K hK
      have h20 := h.not20 (i := 13) (by omega) hl
      obtain ⟨L, o1, o2, o3, o4, o5, o6, o7⟩ := h.own h20
      have e9 := h.c9 (hp 9 (by simp))
      have e10 := h.c10 (hp 10 (by simp))
      have e11 := h.c11 (hp 11 (by simp))
      have e12 := h.c12 (hp 12 (by simp))
      refine wpOp_plain rfl (by rfl) ?_
      simp only [putsU, Act.put, List.setIfInBounds_toArray, List.set_cons_zero, List.set_cons_succ, e9, e10, e11, e12]
      go_simp
      have hh := hK (.slice (some ⟨w1.heap.size, 0, none⟩) 4 4) (w1.alloc (.cells ([.int .i64 0, .int .i64 0, .int .i64 4, .int .i64 7, .int .i64 (-7), .int .i64 (-12), .int .i64 2, .int .i64 4]).toArray 31)) ⟨by simpa [updL, updU] using h.c0, by simpa [updL, updU] using h.c1, by simpa [updL, updU] using h.c2, by simpa [updL, updU] using h.c3, by simpa [updL, updU] using h.c4, by simpa [updL, updU] using h.c5, by simpa [updL, updU] using h.c6, by simpa [updL, updU] using h.c7, by simpa [updL, updU] using h.c8, by simpa [updL, updU] using h.c9, by simpa [updL, updU] using h.c10, by simpa [updL, updU] using h.c11, by simpa [updL, updU] using h.c12, fun _ => ⟨w1.heap.size, by simp [updU]⟩, by simpa [updL, updU] using h.c14, by simpa [updL, updU] using h.c15, fun h6 => absurd (h.c16 (by simpa [updL] using h6)).1 (by rw [hl]; decide), by simpa [updL, updU] using h.c17, by simpa [updL, updU] using h.c18, by simpa [updL, updU] using h.c19, by simpa [updL] using h.p15, fun h6 => absurd (show l 20 = true by simpa [updL] using h6) (by rw [h20]; decide), fun h6 => by have := (h.rd (by simpa [updL] using h6)).below (below1 (w := w1) (.cells ([.int .i64 0, .int .i64 0, .int .i64 4, .int .i64 7, .int .i64 (-7), .int .i64 (-12), .int .i64 2, .int .i64 4]).toArray 31)); simpa [updL] using this, fun _ => ⟨.blk w1.heap.size ([.int .i64 0, .int .i64 0, .int .i64 4, .int .i64 7, .int .i64 (-7), .int .i64 (-12), .int .i64 2, .int .i64 4]) :: L, o1.alloc (t := 31) (vs := [.int .i64 0, .int .i64 0, .int .i64 4, .int .i64 7, .int .i64 (-7), .int .i64 (-12), .int .i64 2, .int .i64 4]), List.mem_cons_of_mem _ o2, List.mem_cons_of_mem _ o3, fun h6 => List.mem_cons_of_mem _ (by simpa [updU] using o4 (by simpa [updL] using h6)), fun h6 => List.mem_cons_of_mem _ (by simpa [updU] using o5 (by simpa [updL] using h6)), fun _ => by simp [updU, blk17], fun h6 x hx => by
          rcases List.mem_cons.1 hx with rfl | hx
          · exact Or.inl trivial
          · exact o7 (by simpa [updL] using h6) x hx⟩, fun h6 => absurd (show l 20 = true by simpa [updL] using h6) (by rw [h20]; decide)⟩
      simp only [putsU, updU, Act.put, List.setIfInBounds_toArray, List.set_cons_zero, List.set_cons_succ, Nat.reduceEqDiff, reduceIte, reduceCtorEq, if_true, if_false, Nat.zero_ne_one, Nat.one_ne_zero, e9, e10, e11, e12] at hh
      exact hh
    refine AllR.cons ?_ ?_
    · intro l u w1 hl hp h K hK
      have h20 := h.not20 (i := 14) (by omega) hl
      obtain ⟨L, o1, o2, o3, o4, o5, o6, o7⟩ := h.own h20
      refine wpOp_plain rfl (by rfl) ?_
      simp only [putsU, Act.put, List.setIfInBounds_toArray, List.set_cons_zero, List.set_cons_succ]
      go_simp
      have hh := hK (.pointer (some ⟨r, 0, none⟩)) w1 ⟨by simpa [updL, updU] using h.c0, by simpa [updL, updU] using h.c1, by simpa [updL, updU] using h.c2, by simpa [updL, updU] using h.c3, by simpa [updL, updU] using h.c4, by simpa [updL, updU] using h.c5, by simpa [updL, updU] using h.c6, by simpa [updL, updU] using h.c7, by simpa [updL, updU] using h.c8, by simpa [updL, updU] using h.c9, by simpa [updL, updU] using h.c10, by simpa [updL, updU] using h.c11, by simpa [updL, updU] using h.c12, by simpa [updL, updU] using h.c13, fun _ => by simp [updU], by simpa [updL, updU] using h.c15, by simpa [updL, updU] using h.c16, by simpa [updL, updU] using h.c17, by simpa [updL, updU] using h.c18, by simpa [updL, updU] using h.c19, by simpa [updL] using h.p15, fun h6 => absurd (show l 20 = true by simpa [updL] using h6) (by rw [h20]; decide), by simpa [updL] using h.rd, fun _ => ⟨L, o1, o2, o3, by simpa [updL, updU] using o4, by simpa [updL, updU] using o5, by simpa [updL, updU] using o6, by simpa [updL] using o7⟩, fun h6 => absurd (show l 20 = true by simpa [updL] using h6) (by rw [h20]; decide)⟩
      simp only [putsU, updU, Act.put, List.setIfInBounds_toArray, List.set_cons_zero, List.set_cons_succ, Nat.reduceEqDiff, reduceIte, reduceCtorEq, if_true, if_false, Nat.zero_ne_one, Nat.one_ne_zero] at hh
      exact hh
    refine AllR.cons ?_ ?_
    · intro l u w1 hl hp h K hK
      have h20 := h.not20 (i := 15) (by omega) hl
      obtain ⟨L, o1, o2, o3, o4, o5, o6, o7⟩ := h.own h20
      have e0 := h.c14 (hp 14 (by simp))
      have hR := h.rd hl
      rw [if_pos (hp 4 (by simp))] at hR
      have h15 := hl
      refine wpOp_plain rfl (by rfl) ?_
      simp only [putsU, Act.put, List.setIfInBounds_toArray, List.set_cons_zero, List.set_cons_succ, e0]
      go_simp
      refine (pick_any r (500 + 100 * 1) _ _ hR (by omega) (by decide) (by decide)).mono ?_
      rintro e wa ⟨x, x0, x1, rfl, hR4, hB4⟩
      have hh := hK (.int .i64 x) wa ⟨by simpa [updL, updU] using h.c0, by simpa [updL, updU] using h.c1, by simpa [updL, updU] using h.c2, by simpa [updL, updU] using h.c3, by simpa [updL, updU] using h.c4, by simpa [updL, updU] using h.c5, by simpa [updL, updU] using h.c6, by simpa [updL, updU] using h.c7, by simpa [updL, updU] using h.c8, by simpa [updL, updU] using h.c9, by simpa [updL, updU] using h.c10, by simpa [updL, updU] using h.c11, by simpa [updL, updU] using h.c12, by simpa [updL, updU] using h.c13, by simpa [updL, updU] using h.c14, fun _ => by simpa [updU] using int17_mk x0 (by omega), by simpa [updL, updU] using h.c16, by simpa [updL, updU] using h.c17, by simpa [updL, updU] using h.c18, by simpa [updL, updU] using h.c19, fun _ => by simpa [updL] using (hp 4 (by simp)), fun h6 => absurd (show l 20 = true by simpa [updL] using h6) (by rw [h20]; decide), fun h6 => absurd h6 (by simp [updL]), fun _ => ⟨L, Own.drawn hB4 hr0 (ne_rd16 o1 hR hU0 (o7 h15)) o1, o2, o3, by simpa [updL, updU] using o4, by simpa [updL, updU] using o5, by simpa [updL, updU] using o6, fun h6 => absurd h6 (by simp [updL])⟩, fun h6 => absurd (show l 20 = true by simpa [updL] using h6) (by rw [h20]; decide)⟩
      simp only [putsU, updU, Act.put, List.setIfInBounds_toArray, List.set_cons_zero, List.set_cons_succ, Nat.reduceEqDiff, reduceIte, reduceCtorEq, if_true, if_false, Nat.zero_ne_one, Nat.one_ne_zero, e0] at hh
      exact hh
    refine AllR.cons ?_ ?_
    · intro l u w1 hl hp h K hK
      have h20 := h.not20 (i := 16) (by omega) hl
      obtain ⟨L, o1, o2, o3, o4, o5, o6, o7⟩ := h.own h20
      obtain ⟨b, e3⟩ := h.c13 (hp 13 (by simp))
      obtain ⟨x, x0, x1, e5⟩ := h.c15 (hp 15 (by simp))
      have x2 : x < 4 := by omega
      refine wpOp_plain rfl (by rfl) ?_
      simp only [putsU, Act.put, List.setIfInBounds_toArray, List.set_cons_zero, List.set_cons_succ, e3, e5]
      go_simp
      have hh := hK (.pointer (some ⟨b, x.toNat * 2, none⟩)) w1 ⟨by simpa [updL, updU] using h.c0, by simpa [updL, updU] using h.c1, by simpa [updL, updU] using h.c2, by simpa [updL, updU] using h.c3, by simpa [updL, updU] using h.c4, by simpa [updL, updU] using h.c5, by simpa [updL, updU] using h.c6, by simpa [updL, updU] using h.c7, by simpa [updL, updU] using h.c8, by simpa [updL, updU] using h.c9, by simpa [updL, updU] using h.c10, by simpa [updL, updU] using h.c11, by simpa [updL, updU] using h.c12, by simpa [updL, updU] using h.c13, by simpa [updL, updU] using h.c14, by simpa [updL, updU] using h.c15, fun _ => ⟨by simpa [updL] using (hp 13 (by simp)), x, x0, x2, by simp [updU, e3, blk17]⟩, by simpa [updL, updU] using h.c17, by simpa [updL, updU] using h.c18, by simpa [updL, updU] using h.c19, by simpa [updL] using h.p15, fun h6 => absurd (show l 20 = true by simpa [updL] using h6) (by rw [h20]; decide), by simpa [updL] using h.rd, fun _ => ⟨L, o1, o2, o3, by simpa [updL, updU] using o4, by simpa [updL, updU] using o5, by simpa [updL, updU] using o6, by simpa [updL] using o7⟩, fun h6 => absurd (show l 20 = true by simpa [updL] using h6) (by rw [h20]; decide)⟩
      simp only [putsU, updU, Act.put, List.setIfInBounds_toArray, List.set_cons_zero, List.set_cons_succ, Nat.reduceEqDiff, reduceIte, reduceCtorEq, if_true, if_false, Nat.zero_ne_one, Nat.one_ne_zero, e3, e5] at hh
      exact hh
    refine AllR.cons ?_ ?_
    · intro l u w1 hl hp h K hK
      have h20 := h.not20 (i := 17) (by omega) hl
      obtain ⟨L, o1, o2, o3, o4, o5, o6, o7⟩ := h.own h20
      obtain ⟨h3, x, x0, x1, e6⟩ := h.c16 (hp 16 (by simp))
      obtain ⟨hc1, hc2⟩ := ivs17 (x := x) o1 (o6 h3) x0 x1
      have hb := ivS17_bd (x := x)
      generalize ivS17 x = st at hc1 hb
      generalize ivH17 x = ha at hc2 hb
      refine wpOp_plain rfl (by rfl) ?_
      simp only [putsU, Act.put, List.setIfInBounds_toArray, List.set_cons_zero, List.set_cons_succ, e6]
      go_simp
      have hh := hK (.agg #[.int .i64 st, .int .i64 ha]) w1 ⟨by simpa [updL, updU] using h.c0, by simpa [updL, updU] using h.c1, by simpa [updL, updU] using h.c2, by simpa [updL, updU] using h.c3, by simpa [updL, updU] using h.c4, by simpa [updL, updU] using h.c5, by simpa [updL, updU] using h.c6, by simpa [updL, updU] using h.c7, by simpa [updL, updU] using h.c8, by simpa [updL, updU] using h.c9, by simpa [updL, updU] using h.c10, by simpa [updL, updU] using h.c11, by simpa [updL, updU] using h.c12, by simpa [updL, updU] using h.c13, by simpa [updL, updU] using h.c14, by simpa [updL, updU] using h.c15, by simpa [updL, updU] using h.c16, fun _ => ⟨st, ha, hb.1, hb.2, by simp [updU]⟩, by simpa [updL, updU] using h.c18, by simpa [updL, updU] using h.c19, by simpa [updL] using h.p15, fun h6 => absurd (show l 20 = true by simpa [updL] using h6) (by rw [h20]; decide), by simpa [updL] using h.rd, fun _ => ⟨L, o1, o2, o3, by simpa [updL, updU] using o4, by simpa [updL, updU] using o5, by simpa [updL, updU] using o6, by simpa [updL] using o7⟩, fun h6 => absurd (show l 20 = true by simpa [updL] using h6) (by rw [h20]; decide)⟩
      simp only [putsU, updU, Act.put, List.setIfInBounds_toArray, List.set_cons_zero, List.set_cons_succ, Nat.reduceEqDiff, reduceIte, reduceCtorEq, if_true, if_false, Nat.zero_ne_one, Nat.one_ne_zero, e6] at hh
      exact hh
    refine AllR.cons ?_ ?_
    · intro l u w1 hl hp h K hK
      have h20 := h.not20 (i := 18) (by omega) hl
      obtain ⟨L, o1, o2, o3, o4, o5, o6, o7⟩ := h.own h20
      have e0 := h.c0 (hp 0 (by simp))
      refine wpOp_plain rfl (by rfl) ?_
      simp only [putsU, Act.put, List.setIfInBounds_toArray, List.set_cons_zero, List.set_cons_succ, e0]
      go_simp
      have hh := hK (va) w1 ⟨by simpa [updL, updU] using h.c0, by simpa [updL, updU] using h.c1, by simpa [updL, updU] using h.c2, by simpa [updL, updU] using h.c3, by simpa [updL, updU] using h.c4, by simpa [updL, updU] using h.c5, by simpa [updL, updU] using h.c6, by simpa [updL, updU] using h.c7, by simpa [updL, updU] using h.c8, by simpa [updL, updU] using h.c9, by simpa [updL, updU] using h.c10, by simpa [updL, updU] using h.c11, by simpa [updL, updU] using h.c12, by simpa [updL, updU] using h.c13, by simpa [updL, updU] using h.c14, by simpa [updL, updU] using h.c15, by simpa [updL, updU] using h.c16, by simpa [updL, updU] using h.c17, fun _ => by simp [updU], by simpa [updL, updU] using h.c19, by simpa [updL] using h.p15, fun h6 => absurd (show l 20 = true by simpa [updL] using h6) (by rw [h20]; decide), by simpa [updL] using h.rd, fun _ => ⟨L, o1, o2, o3, by simpa [updL, updU] using o4, by simpa [updL, updU] using o5, by simpa [updL, updU] using o6, by simpa [updL] using o7⟩, fun h6 => absurd (show l 20 = true by simpa [updL] using h6) (by rw [h20]; decide)⟩
      simp only [putsU, updU, Act.put, List.setIfInBounds_toArray, List.set_cons_zero, List.set_cons_succ, Nat.reduceEqDiff, reduceIte, reduceCtorEq, if_true, if_false, Nat.zero_ne_one, Nat.one_ne_zero, e0] at hh
      exact hh
    refine AllR.cons ?_ ?_
    · intro l u w1 hl hp h K hK
      have h20 := h.not20 (i := 19) (by omega) hl
      obtain ⟨L, o1, o2, o3, o4, o5, o6, o7⟩ := h.own h20
      obtain ⟨y, y0, y1, e8⟩ := h.c8 (hp 8 (by simp))
      refine wpOp_plain rfl (by rfl) ?_
      simp only [putsU, Act.put, List.setIfInBounds_toArray, List.set_cons_zero, List.set_cons_succ, e8]
      go_simp
      have hh := hK (.int .i64 y) w1 ⟨by simpa [updL, updU] using h.c0, by simpa [updL, updU] using h.c1, by simpa [updL, updU] using h.c2, by simpa [updL, updU] using h.c3, by simpa [updL, updU] using h.c4, by simpa [updL, updU] using h.c5, by simpa [updL, updU] using h.c6, by simpa [updL, updU] using h.c7, by simpa [updL, updU] using h.c8, by simpa [updL, updU] using h.c9, by simpa [updL, updU] using h.c10, by simpa [updL, updU] using h.c11, by simpa [updL, updU] using h.c12, by simpa [updL, updU] using h.c13, by simpa [updL, updU] using h.c14, by simpa [updL, updU] using h.c15, by simpa [updL, updU] using h.c16, by simpa [updL, updU] using h.c17, by simpa [updL, updU] using h.c18, fun _ => by simpa [updU] using int17_mk y0 y1, by simpa [updL] using h.p15, fun h6 => absurd (show l 20 = true by simpa [updL] using h6) (by rw [h20]; decide), by simpa [updL] using h.rd, fun _ => ⟨L, o1, o2, o3, by simpa [updL, updU] using o4, by simpa [updL, updU] using o5, by simpa [updL, updU] using o6, by simpa [updL] using o7⟩, fun h6 => absurd (show l 20 = true by simpa [updL] using h6) (by rw [h20]; decide)⟩
      simp only [putsU, updU, Act.put, List.setIfInBounds_toArray, List.set_cons_zero, List.set_cons_succ, Nat.reduceEqDiff, reduceIte, reduceCtorEq, if_true, if_false, Nat.zero_ne_one, Nat.one_ne_zero, e8] at hh
      exact hh
    refine AllR.cons ?_ ?_
    · intro l u w1 hl hp h K hK
      obtain ⟨L, o1, o2, o3, o4, o5, o6, o7⟩ := h.own hl
      obtain ⟨st, ha, hst, hha, e17⟩ := h.c17 (hp 17 (by simp))
      have hO := own_two17 o1 o3 o2 (by simp)
      have hG := hO
      simp only [Own, Item.Holds, apartI, CellsAt, Nat.reduceAdd, Nat.zero_add, List.mem_cons, List.not_mem_nil, or_false, forall_eq_or_imp, forall_eq, ne_eq, false_imp_iff, implies_true, and_true] at hG
      refine wpOp_plain rfl (by rfl) ?_
      simp only [putsU, Act.put, List.setIfInBounds_toArray, List.set_cons_zero, List.set_cons_succ, e17]
      go_simp
      have h1 := (hO.set_at (b := q) (i := 0) (u := .int .i64 st) (by omega)).set_at (b := q) (i := 1) (u := .int .i64 ha) (by omega)
      have h2 : upd (upd [.blk q [.int .i64 0, .int .i64 0], (.row 53 6 va vs.length (vcC vs))] q 0 (.int .i64 st)) q 1 (.int .i64 ha) = [.blk q [.int .i64 st, .int .i64 ha], (.row 53 6 va vs.length (vcC vs))] := by
        have g1 : ∀ k y, updI q k y (.row 53 6 va vs.length (vcC vs)) = (.row 53 6 va vs.length (vcC vs)) := fun k y => updI_other hUq
        simp only [upd, List.map_cons, List.map_nil, g1]
        simp [updI]
      rw [h2] at h1
      have hh := hK undef _ ⟨by simpa [updL, updU] using h.c0, by simpa [updL, updU] using h.c1, by simpa [updL, updU] using h.c2, by simpa [updL, updU] using h.c3, by simpa [updL, updU] using h.c4, by simpa [updL, updU] using h.c5, by simpa [updL, updU] using h.c6, by simpa [updL, updU] using h.c7, by simpa [updL, updU] using h.c8, by simpa [updL, updU] using h.c9, by simpa [updL, updU] using h.c10, by simpa [updL, updU] using h.c11, by simpa [updL, updU] using h.c12, by simpa [updL, updU] using h.c13, by simpa [updL, updU] using h.c14, by simpa [updL, updU] using h.c15, by simpa [updL, updU] using h.c16, by simpa [updL, updU] using h.c17, by simpa [updL, updU] using h.c18, by simpa [updL, updU] using h.c19, by simpa [updL] using h.p15, fun _ j hj => by have := hp j (by simp; omega); simpa [updL, show ¬ j = 20 by omega] using this, fun h6 => absurd (show l 15 = false by simpa [updL] using h6) (by rw [hp 15 (by simp)]; decide), fun h6 => absurd h6 (by simp [updL]), fun _ => ⟨st, ha, hst, hha, h1⟩⟩
      simp only [putsU, updU, Act.put, List.setIfInBounds_toArray, List.set_cons_zero, List.set_cons_succ, Nat.reduceEqDiff, reduceIte, reduceCtorEq, if_true, if_false, Nat.zero_ne_one, Nat.one_ne_zero, e17] at hh
      exact hh
    exact AllR.nil
  · intro l9 u9 w9 hall h9
    have e18 := h9.c18 (hall 18 (by decide))
    obtain ⟨y, y0, y1, e19⟩ := h9.c19 (hall 19 (by decide))
    obtain ⟨st, ha, hst, hha, hO⟩ := h9.fin (hall 20 (by decide))
    simp only [putsU, Act.put, List.setIfInBounds_toArray, List.set_cons_zero, List.set_cons_succ, Nat.reduceAdd, e18, e19]
    clear h9 hall e18 e19 hO9 hX
    have hF := True.intro
    have hF := hO; (try simp only [Own, Item.Holds, apartI, CellsAt, Nat.reduceAdd, Nat.zero_add, List.mem_cons, List.not_mem_nil, or_false, forall_eq_or_imp, forall_eq, ne_eq, false_imp_iff, implies_true, and_true] at hF)
    go_wp2_with fail
    apply own_end hO
    (repeat (first | (with_reducible exact hO) | (with_reducible apply Own.alloc) | (with_reducible apply Own.drew) | ((with_reducible apply Own.set_at); (focus (show _ ≤ _; omega)))))
    have hG := hF; clear hF; clear hO; intro hO
    refine own_ret (v := .tuple #[va, .int .i64 y, .agg #[.int .i64 st, .int .i64 ha]]) hO ?_ rfl (fun hO => ⟨va, vs, y, st, ha, HV.out.1, HV.out.2, ⟨y0, y1⟩, hst, hha, rfl, hO.2⟩)
    clear hO; intro w1 hO
    (try simp only [World.size_alloc1, World.size_drew, Nat.reduceAdd] at hO); (try simp only [upd, updI, List.map_cons, List.map_nil, eq_self, if_true, if_false, reduceIte, Nat.add_eq_left, Nat.left_eq_add, Nat.reduceEqDiff, List.set_cons_zero, List.set_cons_succ, hG] at hO); clear hG
    have hF := hO; (try simp only [Own, Item.Holds, apartI, CellsAt, Nat.reduceAdd, Nat.zero_add, List.mem_cons, List.not_mem_nil, or_false, forall_eq_or_imp, forall_eq, ne_eq, false_imp_iff, implies_true, and_true] at hF)
    simp [results, Tryd.results37, go_sem, hF]
end Go.Proofs.YtmkhpafcgobfhaaDoor
