/- The walk of FnExactSpellKey. -/
import Derived.Test.YtfcbfjdkmeiicaaDoorWalksSpell
import Derived.Test.YtfcbfjdkmeiicaaDoorWalksEq
namespace Go.Proofs.YtfcbfjdkmeiicaaDoor
open Go.RowKit Go.Joins

theorem btrA {W0 W w1 : World} {o : Obj} (h : Below W0.heap.size W0 W) (hb : Below (W.alloc o).heap.size (W.alloc o) w1) : Below W0.heap.size W0 w1 := btr (h.alloc h.size o) hb

set_option maxHeartbeats 1000000 in
theorem xSpellKey_any (key : Int) (flats : Bool) (w : World) (ht : TabH w) :
    Calls Tryd.prog 11 #[.int .i64 key, .bool flats] w fun e w' => e = .returned (.bool true) ∧ Below w.heap.size w w' := by
  by_cases hk : 0 ≤ key ∧ key ≤ 107
  · obtain ⟨h0, h1⟩ := hk
    go_enter Tryd.func11, Tryd.ntmps11
    go_wp2_with (go_at_call 30; refine (spellS_yes _ _ _ h0 h1).mono ?_; rintro e w1 ⟨rfl, hb1⟩)
    refine (spellI_yes _ _ _ ((ht.below hb1).below (below1 _)) h0 h1).mono ?_
    rintro e w2 ⟨rfl, hb2⟩
    obtain ⟨hc, hf⟩ := bcell hb2
    have hz := size_below hb2
    go_wp2_with (go_at_call 32; refine (eqPitch_same _ _ _ _).mono ?_; rintro e w3 ⟨rfl, hb3⟩)
    go_ret
    exact ⟨rfl, btrA (btrA hb1 hb2) hb3⟩
  · have hk' : key < 0 ∨ 107 < key := by omega
    clear hk
    go_enter Tryd.func11, Tryd.ntmps11
    go_wp2_with (go_at_call 30; refine (spellS_no _ _ _ hk').mono ?_; rintro e w1 ⟨rfl, hb1⟩)
    refine (spellI_no _ _ _ hk').mono ?_
    rintro e w2 ⟨rfl, hb2⟩
    obtain ⟨hc, hf⟩ := bcell hb2
    have hz := size_below hb2
    go_wp2_with (go_at_call 32; refine (eqPitch_same _ _ _ _).mono ?_; rintro e w3 ⟨rfl, hb3⟩)
    go_ret
    exact ⟨rfl, btrA (btrA hb1 hb2) hb3⟩
end Go.Proofs.YtfcbfjdkmeiicaaDoor
