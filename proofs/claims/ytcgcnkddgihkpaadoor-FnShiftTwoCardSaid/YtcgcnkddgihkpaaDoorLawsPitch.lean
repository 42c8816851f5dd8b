/- The walks of FnPitchValid, FnPitchPlace, FnPitchKey. -/
import Derived.Test.YtcgcnkddgihkpaaDoorDrawBase
namespace Go.Proofs.YtcgcnkddgihkpaaDoor
set_option linter.unusedSimpArgs false
set_option linter.unusedVariables false
set_option maxRecDepth 8000
open Go.RowKit

theorem BytesB.form {w : World} {B : Nat} {v : Value} {n : Nat} (h : BytesB w B v n) : ∃ a c, v = .slice a n c := by
  rcases h with ⟨rfl, a, c, rfl⟩ | ⟨h0, b, off, cap, h1, h2, rfl, _⟩
  · exact ⟨a, c, rfl⟩
  · exact ⟨_, _, rfl⟩
theorem btrB {W0 W w1 : World} {o : Obj} (h : Below W0.heap.size W0 W) (hb : Below (W.alloc o).heap.size (W.alloc o) w1) : Below W0.heap.size W0 w1 := btr (h.alloc h.size o) hb

theorem pvB_seven (a o : Int) : pvB 7 a o = false := by simp [pvB, inB]
theorem pvB_three (s o : Int) : pvB s 3 o = false := by simp [pvB, inB]

theorem place_yes {s a o : Int} (hv : pvB s a o = true) : placeZ s a o = 7 * o + s := by simp [placeZ, hv]
theorem place_no {s a o : Int} (hv : pvB s a o = false) : placeZ s a o = -1 := by simp [placeZ, hv]

theorem key_yes {s a o : Int} (hv : pvB s a o = true) : keyZ s a o = 12 * o + halZ s + a := by
  obtain ⟨⟨i1, i2⟩, ⟨i3, i4⟩, ⟨i5, i6⟩⟩ := pvB_iff.1 hv
  rw [keyZ, if_pos hv, natZ_os i1 i2]
theorem key_no {s a o : Int} (hv : pvB s a o = false) : keyZ s a o = -100 := by simp [keyZ, hv]
theorem btrB2 {W0 W w1 : World} {o p : Obj} (h : Below W0.heap.size W0 W) (hb : Below ((W.alloc o).alloc p).heap.size ((W.alloc o).alloc p) w1) : Below W0.heap.size W0 w1 := btr ((h.alloc h.size o).alloc (by have := h.size; simp; omega) p) hb