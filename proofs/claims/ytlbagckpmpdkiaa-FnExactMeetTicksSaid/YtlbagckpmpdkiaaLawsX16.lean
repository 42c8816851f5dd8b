/- The walks of the exact laws of chapter 16, from what the functions answer: MeetFault, IsCanon. -/
import Derived.Test.YtlbagckpmpdkiaaCon16
import Derived.Test.YtlbagckpmpdkiaaLawsX5
import Derived.Test.YtlbagckpmpdkiaaRegionD
namespace Go.Proofs.Ytlbagckpmpdkiaa
set_option linter.unusedSimpArgs false
set_option linter.unusedVariables false
set_option maxRecDepth 8000
open Go.RowKit Go.Joins

theorem NotesAt.form16 {w : World} {v : Value} {l : List Nt} (h : NotesAt w v l) : ∃ a c, v = .slice a l.length c := by
  rcases h with ⟨rfl, a, c, rfl⟩ | h
  · exact ⟨a, c, rfl⟩
  · obtain ⟨A, c, rfl⟩ := h.form
    exact ⟨A, c, rfl⟩
theorem szN_at16 {va : Value} {l : List Nt} {n r : Int} (h0 : 0 ≤ n) (h1 : n ≤ 1000000000) (hr : (if n < (l.length : Int) then (-1 : Int) else n - (l.length : Int)) = r) (hl : l.length ≤ maxLen) (W : World) (h : NotesAt W va l) :
    Calls Try.prog 4 #[va, .int .i64 n] W fun e w' => e = .returned (.int .i64 r) ∧ W = w' := by
  subst hr
  exact szN_at va l n W h h0 h1 (by unfold maxLen at hl; omega)
theorem eqN16 {a : List Nt} {n : Nat} (hn : a.length = n) (va vb : Value) (W : World) (h1 : SlAt W va n 6 (vcC a)) (h2 : SlAt W vb n 6 (vcC a)) :
    Calls Try.prog 9 #[va, vb] W fun e w' => e = .returned (.bool true) ∧ Below W.heap.size W w' := by
  subst hn; exact eqNoteS_same va vb a W h1 h2

end Go.Proofs.Ytlbagckpmpdkiaa
