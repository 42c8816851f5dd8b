/- SpellKey, in the program and in the model. -/
import Derived.Test.YtfdglkiehkilnaaDoorWalks1
import Derived.Test.YtfdglkiehkilnaaDoorPureSpell
namespace Go.Proofs.YtfdglkiehkilnaaDoor
set_option linter.unusedSimpArgs false
set_option linter.unusedVariables false
set_option maxRecDepth 8000
open Go.RowKit Go.Joins

def stB (h : Int) : Bool := decide (0 ≤ stepZ h)
def stV (h : Int) : Int := if 0 ≤ stepZ h then stepZ h else 0
theorem st_yes {h : Int} {k : Int} (h0 : 0 ≤ k) (h6 : k ≤ 6) (e : halZ k = h) : stB h = true ∧ stV h = k := by
  have := stepZ_hal h0 h6
  rw [e] at this
  unfold stB stV
  rw [this]
  simp [h0]
theorem st_no {h : Int} (e : ∀ j : Int, 0 ≤ j → j < 7 → halZ j ≠ h) : stB h = false ∧ stV h = 0 := by
  have hn : ¬ 0 ≤ stepZ h := fun h0 => by
    have h1 := stepZ_bd h
    exact e (stepZ h) h0 (by omega) (hal_stepZ h0)
  unfold stB stV
  simp [hn]

def NotYet (h k : Int) : Prop := ∀ j : Int, 0 ≤ j → j < k → halZ j ≠ h
theorem NotYet.succ {h k k' : Int} (a : NotYet h k) (b : ¬ halZ k = h) (e : k' = k + 1) : NotYet h k' := fun j h0 hj => by
  rcases (show j < k ∨ j = k by omega) with h1 | rfl
  · exact a j h0 h1
  · exact b

/-- The array of half tones, by value: its element at a known place. -/
theorem idx_hal (k : Int) (h0 : 0 ≤ k) (h6 : k ≤ 6) (w : World) :
    (Instr.index 121 (.agg #[.int .i64 0, .int .i64 2, .int .i64 4, .int .i64 5, .int .i64 7, .int .i64 9, .int .i64 11]) (.int .i64 k)).run Tryd.prog w = .ok (.int .i64 (halZ k)) w := by
  rcases step7 h0 h6 with rfl | rfl | rfl | rfl | rfl | rfl | rfl <;> kernel_rfl

theorem boxed1_set3 {w w1 : World} {o : Obj} (h : Below (w.alloc o).heap.size (w.alloc o) w1) (x y z : Value) :
    Below w.heap.size w (((w1.setCell ⟨w.heap.size, 0, none⟩ x).setCell ⟨w.heap.size, 1, none⟩ y).setCell ⟨w.heap.size, 2, none⟩ z) :=
  (((boxed1 h).setCell (Nat.le_refl _) _).setCell (Nat.le_refl _) _).setCell (Nat.le_refl _) _

set_option maxHeartbeats 2000000 in
theorem spellS_nat (key : Int) (flats : Bool) (w : World) (h0 : 0 ≤ key) (h1 : key ≤ 107) (hs : 0 ≤ stepZ (key % 12)) :
    Calls Tryd.prog 99 #[.int .i64 key, .bool flats] w fun e w' => e = .returned (.tuple #[.agg #[.int .i64 (spS key flats), .int .i64 (spA key flats), .int .i64 (key / 12)], .bool true]) ∧ Below w.heap.size w w' := by
  have hin : inB key 0 107 = true := inB_iff.2 ⟨h0, h1⟩
  have hn := hid (nat_at hs)
  have hst := stepZ_bd (key % 12)
  obtain ⟨P, hP⟩ : ∃ P : Int, Hid (P = 7 * (key / 12) + stepZ (key % 12)) := ⟨_, rfl⟩
  have hP0 : 0 ≤ P := by have := hP.out; omega
  have hP1 : P ≤ 62 := by have := hP.out; omega
  have hPk : Hid (natZ P = key) := by have h1 := hn.out; have h2 := hP.out; rw [← h2] at h1; exact h1
  clear hn hst hP hs
  go_enter Tryd.func99, Tryd.ntmps99
  go_wp2
  go_loopw [6, 7] (fun t _ wr => ∃ p : Int, 0 ≤ p ∧ p ≤ P ∧ t = .int .i64 p ∧ Below (w.alloc (.cells #[.int .i64 0, .int .i64 0, .int .i64 0] 29)).heap.size (w.alloc (.cells #[.int .i64 0, .int .i64 0, .int .i64 0] 29)) wr) (fun t _ _ => (63 - intOf t).toNat)
  case atStart => exact ⟨0, by omega, hP0, rfl, Below.refl _ _⟩
  case round =>
    obtain ⟨p, hp0, hp1, rfl, hA⟩ := hrel
    obtain ⟨hc, hf⟩ := bcell hA
    have hz := hA.size
    simp only [World.size_alloc1] at hz
    have hnb := natZ_bd hp0
    have hn2 : natZ p ≤ 200 := by omega
    by_cases he : p = P
    · subst he
      have hb : (key - natZ p == 0) = true := by have := hPk.out; simp; omega
      have hit := hid (nat_hit flats hPk.out)
      go_wp2_with (first | (go_at_call 48; refine (in_any _ _ _ _).mono ?_; rintro e w1 ⟨rfl, rfl⟩) | (go_at_call 123; refine (natural_any _ _ (by omega) (by omega)).mono ?_; rintro e w1 ⟨rfl, hb⟩; (first | have hA2 := btr hA hb | have hA2 := hb); (try clear hA hc hf hz); clear hb; have hA := hA2; clear hA2; obtain ⟨hc, hf⟩ := bcell hA; have hz := hA.size; try simp only [World.size_alloc1] at hz))
      obtain ⟨e1, e2, e3⟩ := hit.out
      refine bodyPost_ret (v := .tuple #[.agg #[.int .i64 (p % 7), .int .i64 0, .int .i64 (p / 7)], .bool true]) (by simp [results, Tryd.results99, go_sem, hc]) rfl ⟨by rw [e1, e2, e3], ?_⟩
      exact boxed1_set3 hA _ _ _
    · have hb : (key - natZ p == 0) = false := by
        have h2 : natZ p ≠ natZ P := fun h => he (natZ_inj h)
        have := hPk.out
        simp; omega
      have hlt : p + 1 ≤ P := by omega
      clear he
      go_wp2_with (first | (go_at_call 48; refine (in_any _ _ _ _).mono ?_; rintro e w1 ⟨rfl, rfl⟩) | (go_at_call 123; refine (natural_any _ _ (by omega) (by omega)).mono ?_; rintro e w1 ⟨rfl, hb⟩; (first | have hA2 := btr hA hb | have hA2 := hb); (try clear hA hc hf hz); clear hb; have hA := hA2; clear hA2; obtain ⟨hc, hf⟩ := bcell hA; have hz := hA.size; try simp only [World.size_alloc1] at hz))
      go_roundw
      case rel => exact ⟨p + 1, by omega, hlt, rfl, hA⟩
      case measure => simp [intOf]; omega

set_option maxHeartbeats 2000000 in
theorem spellS_alt (key : Int) (flats : Bool) (w : World) (h0 : 0 ≤ key) (h1 : key ≤ 107) (hs : ¬ 0 ≤ stepZ (key % 12)) :
    Calls Tryd.prog 99 #[.int .i64 key, .bool flats] w fun e w' => e = .returned (.tuple #[.agg #[.int .i64 (spS key flats), .int .i64 (spA key flats), .int .i64 (key / 12)], .bool true]) ∧ Below w.heap.size w w' := by
  have hin : inB key 0 107 = true := inB_iff.2 ⟨h0, h1⟩
  have HS := hid (show stepZ (key % 12) < 0 by omega)
  have hP : ∃ P : Int, 0 ≤ P ∧ P ≤ 62 ∧ Hid (natZ P = if flats then key + 1 else key - 1) := by
    have h2 := stepZ_near hs (by omega) (by omega)
    have h3 := stepZ_bd (key % 12 + 1)
    have h4 := stepZ_bd (key % 12 - 1)
    cases flats with
    | true => exact ⟨_, by omega, by omega, flat_at hs⟩
    | false => exact ⟨_, by omega, by omega, sharp_at hs⟩
  obtain ⟨P, hP0, hP1, hPk⟩ := hP
  clear hs
  go_enter Tryd.func99, Tryd.ntmps99
  go_wp2
  go_loopw [6, 7] (fun t _ wr => ∃ p : Int, 0 ≤ p ∧ p ≤ 63 ∧ t = .int .i64 p ∧ Below (w.alloc (.cells #[.int .i64 0, .int .i64 0, .int .i64 0] 29)).heap.size (w.alloc (.cells #[.int .i64 0, .int .i64 0, .int .i64 0] 29)) wr) (fun t _ _ => (63 - intOf t).toNat)
  case atStart => exact ⟨0, by omega, by omega, rfl, Below.refl _ _⟩
  case round =>
    obtain ⟨p, hp0, hp1, rfl, hA⟩ := hrel
    obtain ⟨hc, hf⟩ := bcell hA
    have hz := hA.size
    simp only [World.size_alloc1] at hz
    by_cases hlt : p < 63
    · have hnb := natZ_bd hp0
      have hn2 : natZ p ≤ 200 := by omega
      have hb : (key - natZ p == 0) = false := by
        have := nat_none (key := key) (p := p) (by have := HS.out; omega)
        simp; omega
      go_wp2_with (first | (go_at_call 48; refine (in_any _ _ _ _).mono ?_; rintro e w1 ⟨rfl, rfl⟩) | (go_at_call 123; refine (natural_any _ _ (by omega) (by omega)).mono ?_; rintro e w1 ⟨rfl, hb⟩; (first | have hA2 := btr hA hb | have hA2 := hb); (try clear hA hc hf hz); clear hb; have hA := hA2; clear hA2; obtain ⟨hc, hf⟩ := bcell hA; have hz := hA.size; try simp only [World.size_alloc1] at hz))
      go_roundw
      case rel => exact ⟨p + 1, by omega, by omega, rfl, hA⟩
      case measure => simp [intOf]; omega
    · go_wp2
      go_loopw [8, 9] (fun t _ wr => ∃ p : Int, 0 ≤ p ∧ p ≤ P ∧ t = .int .i64 p ∧ Below (w.alloc (.cells #[.int .i64 0, .int .i64 0, .int .i64 0] 29)).heap.size (w.alloc (.cells #[.int .i64 0, .int .i64 0, .int .i64 0] 29)) wr) (fun t _ _ => (63 - intOf t).toNat)
      case atStart => exact ⟨0, by omega, hP0, rfl, hA⟩
      case round =>
        clear hA hc hf hz
        obtain ⟨p, hp0, hp1, rfl, hA⟩ := hrel
        obtain ⟨hc, hf⟩ := bcell hA
        have hz := hA.size
        simp only [World.size_alloc1] at hz
        have hnb := natZ_bd hp0
        have hn2 : natZ p ≤ 200 := by omega
        have hlt : p < 63 := by omega
        by_cases he : p = P
        · subst he
          have hB := hPk.out
          cases flats with
          | true =>
            have hb0 : (key - natZ p == 1) = false := by simp at hB ⊢; omega
            have hb : (key - natZ p == -1) = true := by simp at hB ⊢; omega
            have hit := hid (flat_hit (p := p) (key := key) (by have := HS.out; omega) hB)
            have hv : Hid (key - natZ p = -1) := by show key - natZ p = -1; simp at hB; omega
            clear hB
            go_wp2_with (first | (go_at_call 48; refine (in_any _ _ _ _).mono ?_; rintro e w1 ⟨rfl, rfl⟩) | (go_at_call 123; refine (natural_any _ _ (by omega) (by omega)).mono ?_; rintro e w1 ⟨rfl, hb⟩; (first | have hA2 := btr hA hb | have hA2 := hb); (try clear hA hc hf hz); clear hb; have hA := hA2; clear hA2; obtain ⟨hc, hf⟩ := bcell hA; have hz := hA.size; try simp only [World.size_alloc1] at hz))
            obtain ⟨e1, e2, e3⟩ := hit.out
            refine bodyPost_ret (v := .tuple #[.agg #[.int .i64 (p % 7), .int .i64 (key - natZ p), .int .i64 (p / 7)], .bool true]) (by simp [results, Tryd.results99, go_sem, hc]) rfl ⟨by rw [e1, e2, e3, hv.out], ?_⟩
            exact boxed1_set3 hA _ _ _
          | false =>
            have hb : (key - natZ p == 1) = true := by simp at hB ⊢; omega
            have hit := hid (sharp_hit (p := p) (key := key) (by have := HS.out; omega) hB)
            have hv : Hid (key - natZ p = 1) := by show key - natZ p = 1; simp at hB; omega
            clear hB
            go_wp2_with (first | (go_at_call 48; refine (in_any _ _ _ _).mono ?_; rintro e w1 ⟨rfl, rfl⟩) | (go_at_call 123; refine (natural_any _ _ (by omega) (by omega)).mono ?_; rintro e w1 ⟨rfl, hb⟩; (first | have hA2 := btr hA hb | have hA2 := hb); (try clear hA hc hf hz); clear hb; have hA := hA2; clear hA2; obtain ⟨hc, hf⟩ := bcell hA; have hz := hA.size; try simp only [World.size_alloc1] at hz))
            obtain ⟨e1, e2, e3⟩ := hit.out
            refine bodyPost_ret (v := .tuple #[.agg #[.int .i64 (p % 7), .int .i64 (key - natZ p), .int .i64 (p / 7)], .bool true]) (by simp [results, Tryd.results99, go_sem, hc]) rfl ⟨by rw [e1, e2, e3, hv.out], ?_⟩
            exact boxed1_set3 hA _ _ _
        · have hlP : p + 1 ≤ P := by omega
          have hne : natZ p ≠ natZ P := fun h => he (natZ_inj h)
          have hB := hPk.out
          cases flats with
          | true =>
            have hb : (key - natZ p == -1) = false := by simp at hB ⊢; omega
            clear he hne hB
            by_cases hb0 : (key - natZ p == 1) = true
            all_goals
              go_wp2_with (first | (go_at_call 48; refine (in_any _ _ _ _).mono ?_; rintro e w1 ⟨rfl, rfl⟩) | (go_at_call 123; refine (natural_any _ _ (by omega) (by omega)).mono ?_; rintro e w1 ⟨rfl, hb⟩; (first | have hA2 := btr hA hb | have hA2 := hb); (try clear hA hc hf hz); clear hb; have hA := hA2; clear hA2; obtain ⟨hc, hf⟩ := bcell hA; have hz := hA.size; try simp only [World.size_alloc1] at hz))
              go_roundw
              case rel => exact ⟨p + 1, by omega, hlP, rfl, hA⟩
              case measure => simp [intOf]; omega
          | false =>
            have hb : (key - natZ p == 1) = false := by simp at hB ⊢; omega
            clear he hne hB
            go_wp2_with (first | (go_at_call 48; refine (in_any _ _ _ _).mono ?_; rintro e w1 ⟨rfl, rfl⟩) | (go_at_call 123; refine (natural_any _ _ (by omega) (by omega)).mono ?_; rintro e w1 ⟨rfl, hb⟩; (first | have hA2 := btr hA hb | have hA2 := hb); (try clear hA hc hf hz); clear hb; have hA := hA2; clear hA2; obtain ⟨hc, hf⟩ := bcell hA; have hz := hA.size; try simp only [World.size_alloc1] at hz))
            all_goals
              go_roundw
              case rel => exact ⟨p + 1, by omega, hlP, rfl, hA⟩
              case measure => simp [intOf]; omega

set_option maxHeartbeats 1000000 in
theorem spellS_no (key : Int) (flats : Bool) (w : World) (h : key < 0 ∨ 107 < key) :
    Calls Tryd.prog 99 #[.int .i64 key, .bool flats] w fun e w' => e = .returned (.tuple #[.agg #[.int .i64 0, .int .i64 0, .int .i64 0], .bool false]) ∧ Below w.heap.size w w' := by
  have hin : inB key 0 107 = false := inB_no.2 (by omega)
  clear h
  go_enter Tryd.func99, Tryd.ntmps99
  go_wp2
  go_loop [6] (fun t => t = .int .i64 0) (fun _ => 0)
  case atStart => rfl
  case round =>
    subst hrel
    go_wp2_with (go_at_call 48; refine (in_any _ _ _ _).mono ?_; rintro e w1 ⟨rfl, rfl⟩)
    go_loop [8] (fun t => t = .int .i64 0) (fun _ => 0)
    case atStart => rfl
    case round =>
      subst hrel
      go_wp2_with (go_at_call 48; refine (in_any _ _ _ _).mono ?_; rintro e w1 ⟨rfl, rfl⟩)
      refine bodyPost_ret (v := .tuple #[.agg #[.int .i64 0, .int .i64 0, .int .i64 0], .bool false]) (by simp [results, Tryd.results99, go_sem]) rfl ⟨rfl, ?_⟩
      exact below1 _

theorem spellS_yes (key : Int) (flats : Bool) (w : World) (h0 : 0 ≤ key) (h1 : key ≤ 107) :
    Calls Tryd.prog 99 #[.int .i64 key, .bool flats] w fun e w' => e = .returned (.tuple #[.agg #[.int .i64 (spS key flats), .int .i64 (spA key flats), .int .i64 (key / 12)], .bool true]) ∧ Below w.heap.size w w' := by
  by_cases hs : 0 ≤ stepZ (key % 12)
  · exact spellS_nat key flats w h0 h1 hs
  · exact spellS_alt key flats w h0 h1 hs
end Go.Proofs.YtfdglkiehkilnaaDoor
