/- The walk of FnSpellKey. -/
import Derived.Test.YtkocfekefjegmaaDoorLawsSpell
import Derived.Test.YtkocfekefjegmaaDoorWalksDrawP
import Derived.Test.YtkocfekefjegmaaDoorLawsPitch
namespace Go.Proofs.YtkocfekefjegmaaDoor
set_option linter.unusedSimpArgs false
set_option linter.unusedVariables false
open Go.RowKit Go.Joins

/-- What drawing a key leaves. -/
def DrewK (w : World) (e : Ending) (w' : World) : Prop :=
  ∃ (k : Int) (f : Bool), -1 ≤ k ∧ k ≤ 108 ∧ e = .returned (.tuple #[.int .i64 k, .bool f]) ∧ Below w.heap.size w w'

set_option maxHeartbeats 1000000 in
theorem DrawSpellKey_any (v : Value) (n : Nat) (w : World) (hn : n ≤ maxLen) (h : BytesB w w.heap.size v n) :
    Calls Tryd.prog 12 #[v] w (DrewK w) := by
  go_enter Tryd.func12, Tryd.ntmps12
  go_wp2_with fail
  refine (open_any v n _ hn h).mono ?_
  rintro e w1 ⟨r, hr, rfl, hR, hb⟩
  go_wp2_with fail
  refine (pick_any r 0 _ _ hR (by omega) (by omega) (by omega)).mono ?_
  rintro e w2 ⟨x, x0, x1, rfl, hR2, hB2⟩
  go_wp2_with fail
  refine (pick_any r _ _ _ hR2 (by omega) (by omega) (by omega)).mono ?_
  rintro e w3 ⟨y, y0, y1, rfl, hR3, hB3⟩
  have hB := (hB2.trans hB3).below hb hr
  clear hR hR2 hR3 hB2 hB3 hr hb
  go_wp2
  go_ret2
  exact ⟨x - 1, _, by omega, by omega, rfl, hB⟩

theorem spell_key {key : Int} {f : Bool} (h0 : 0 ≤ key) (h1 : key ≤ 107) : keyZ (spS key f) (spA key f) (key / 12) = key := by
  have b0 := stepZ_bd (key % 12)
  by_cases hs : 0 ≤ stepZ (key % 12)
  · have e1 : spS key f = stepZ (key % 12) := by simp [spS, hs]
    have e2 : spA key f = 0 := by simp [spA, hs]
    rw [e1, e2, key_yes (pvB_iff.2 (by omega)), hal_stepZ hs]
    omega
  · have hn := stepZ_near hs (by omega) (by omega)
    have b1 := stepZ_bd (key % 12 + 1)
    have b2 := stepZ_bd (key % 12 - 1)
    cases f with
    | true =>
      have e1 : spS key true = stepZ (key % 12 + 1) := by simp [spS, hs]
      have e2 : spA key true = -1 := by simp [spA, hs]
      rw [e1, e2, key_yes (pvB_iff.2 (by omega)), hal_stepZ hn.2]
      omega
    | false =>
      have e1 : spS key false = stepZ (key % 12 - 1) := by simp [spS, hs]
      have e2 : spA key false = 1 := by simp [spA, hs]
      rw [e1, e2, key_yes (pvB_iff.2 (by omega)), hal_stepZ hn.1]
      omega

set_option maxHeartbeats 4000000 in
theorem fnSpellKey_any (v : Value) (n : Nat) (w : World) (hn : n ≤ maxLen) (h : BytesB w w.heap.size v n) (ht : TabH w) :
    Calls Tryd.prog 5 #[v] w fun e w' => e = .returned (.bool true) ∧ Below w.heap.size w w' := by
  obtain ⟨a0, c0, rfl⟩ := h.form
  have hn' : (n : Int) ≤ 9223372036854775807 := by unfold maxLen at hn; omega
  by_cases hl : n ≤ 1048576
  · have hl' : (n : Int) ≤ 1048576 := by omega
    go_enter Tryd.func5, Tryd.ntmps5
    go_wp2_with (go_at_call 12; refine (DrawSpellKey_any _ n _ hn h).mono ?_; rintro e w1 ⟨key, flats, k0, k1, rfl, hb0⟩)
    clear hn h
    have ht1 := ht.below hb0
    by_cases hk : 0 ≤ key ∧ key ≤ 107
    · obtain ⟨h0, h1⟩ := hk
      refine (spellI_yes _ _ _ ht1 h0 h1).mono ?_
      rintro e w2 ⟨rfl, hb1⟩
      have ht2 := ht1.below hb1
      have hB1 := btr hb0 hb1
      clear hb0 hb1 ht1
      go_wp2_with fail
      refine (spellS_yes _ _ _ h0 h1).mono ?_
      rintro e w3 ⟨rfl, hb2⟩
      obtain ⟨hc2, hf2⟩ := bcell hb2
      have z23 := size_below hb2
      have ht3 := (ht2.below (below1 _)).below hb2
      have hB2 := btrB hB1 hb2
      clear hB1
      go_wp2_with fail
      refine (spellI_yes _ _ _ (ht3.below (below1 _)) h0 h1).mono ?_
      rintro e w4 ⟨rfl, hb3⟩
      obtain ⟨hc3, hf3⟩ := bcell hb3
      have z34 := size_below hb3
      have z24 := Nat.lt_trans z23 z34
      have z231 := Nat.lt_succ_of_lt z23
      have z241 := Nat.lt_succ_of_lt z24
      have z341 := Nat.lt_succ_of_lt z34
      simp only [Nat.succ_eq_add_one] at z231 z241 z341
      have ht4 := (ht3.below (below1 _)).below hb3
      have hB3 := btrB hB2 hb3
      clear hB2 hb2 hb3
      go_wp2_with fail
      refine (keyI_any _ _ _ _ (ht4.below (below1 _))).mono ?_
      rintro e w5 ⟨rfl, hb4⟩
      obtain ⟨hc4, hf4⟩ := bcell hb4
      have z45 := size_below hb4
      have hB4 := btrB hB3 hb4
      have hk := spell_key (f := flats) h0 h1
      clear hB3 hb4
      by_cases hs : 0 ≤ stepZ (key % 12)
      · have a1 : ∀ f, spA key f = 0 := fun f => by simp [spA, hs]
        have s1 : spS key (!flats) = spS key flats := by simp [spS, hs]
        have a2 := a1 flats
        have a3 := a1 (!flats)
        clear a1 hs
        rw [a2] at hk
        go_wp2
        all_goals go_ret
        all_goals exact ⟨rfl, hB4⟩
      · cases flats with
        | true =>
          have a2 : spA key true = -1 := by simp [spA, hs]
          have a3 : spA key false = 1 := by simp [spA, hs]
          clear hs
          rw [a2] at hk
          go_wp2
          all_goals go_ret
          all_goals exact ⟨rfl, hB4⟩
        | false =>
          have a2 : spA key false = 1 := by simp [spA, hs]
          have a3 : spA key true = -1 := by simp [spA, hs]
          clear hs
          rw [a2] at hk
          go_wp2
          all_goals go_ret
          all_goals exact ⟨rfl, hB4⟩
    · have hk' : key < 0 ∨ 107 < key := by omega
      clear hk
      refine (spellI_no _ _ _ hk').mono ?_
      rintro e w2 ⟨rfl, hb1⟩
      have ht2 := ht1.below hb1
      have hB1 := btr hb0 hb1
      clear hb0 hb1 ht1
      go_wp2_with fail
      refine (spellS_no _ _ _ hk').mono ?_
      rintro e w3 ⟨rfl, hb2⟩
      obtain ⟨hc2, hf2⟩ := bcell hb2
      have z23 := size_below hb2
      have ht3 := (ht2.below (below1 _)).below hb2
      have hB2 := btrB hB1 hb2
      clear hB1 hb2
      have ht4 : TabH (w3.alloc (.cells #[.int .i64 0, .int .i64 0, .int .i64 0] 25)) := ht3.below (below1 _)
      rcases hk' with hk' | hk'
      · go_wp2_with (go_at_call 11; refine (alive_any _ ht4).mono ?_; rintro e w1 ⟨rfl, hb⟩; (first | have hA2 := btr hA hb | have hA2 := hb); (try clear hA hc hf hz); clear hb; have hA := hA2; clear hA2; obtain ⟨hc, hf⟩ := bcell hA; have hz := hA.size; try simp only [World.size_alloc1] at hz)
        go_ret
        exact ⟨rfl, btrB hB2 hA⟩
      · have hk2 : ¬ key < 0 := by omega
        go_wp2_with (go_at_call 11; refine (alive_any _ ht4).mono ?_; rintro e w1 ⟨rfl, hb⟩; (first | have hA2 := btr hA hb | have hA2 := hb); (try clear hA hc hf hz); clear hb; have hA := hA2; clear hA2; obtain ⟨hc, hf⟩ := bcell hA; have hz := hA.size; try simp only [World.size_alloc1] at hz)
        go_ret
        exact ⟨rfl, btrB hB2 hA⟩
  · have hl' : 1048576 < (n : Int) := by omega
    go_enter Tryd.func5, Tryd.ntmps5
    go_wp2
    go_ret
    exact ⟨rfl, Below.refl _ _⟩
end Go.Proofs.YtkocfekefjegmaaDoor
