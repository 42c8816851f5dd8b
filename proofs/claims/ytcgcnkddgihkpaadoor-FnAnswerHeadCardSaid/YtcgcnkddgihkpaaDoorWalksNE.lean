/- The laws' own functions over a slice of notes that came in, empty or not. -/
import Derived.Test.YtcgcnkddgihkpaaDoorWalksNS
namespace Go.Proofs.YtcgcnkddgihkpaaDoor
set_option linter.unusedSimpArgs false
set_option linter.unusedVariables false
set_option maxRecDepth 8000
open Go.RowKit

/-- A slice of notes that came in. -/
def NotesAt (w : World) (va : Value) (l : List Nt) : Prop := (l = [] ∧ ∃ a c, va = .slice a 0 c) ∨ SlAt w va l.length 6 (vcC l)
theorem NotesAt.below {w w' : World} {va : Value} {l : List Nt} (h : NotesAt w va l) (hb : Below w.heap.size w w') : NotesAt w' va l := h.imp id fun h => h.below hb

set_option maxHeartbeats 1000000 in
theorem szN_at (va : Value) (l : List Nt) (n : Int) (w : World) (h : NotesAt w va l) (h0 : 0 ≤ n) (h1 : n ≤ 1000000000) (hl : (l.length : Int) ≤ 9223372036854775807) :
    Calls Tryd.prog 30 #[va, .int .i64 n] w fun e w' => e = .returned (.int .i64 (if n < l.length then -1 else n - l.length)) ∧ w = w' := by
  rcases h with ⟨rfl, a, c, rfl⟩ | h
  · have hn : ¬ n < 0 := by omega
    have HE := hid (show (if n < (([] : List Nt).length : Int) then (-1 : Int) else n - ([] : List Nt).length) = n by simp; omega)
    go_enter Tryd.func30, Tryd.ntmps30
    go_wp2
    go_ret
    exact ⟨ret_int (by simp <;> omega), rfl⟩
  · exact szN_any va l.length _ n w h h0 h1 hl

set_option maxHeartbeats 4000000 in
theorem toNS_at (va : Value) (l : List Nt) (w : World) (h : NotesAt w va l) (hn : l.length ≤ 1048576) :
    Calls Tryd.prog 31 #[va] w (RowOut 39 6 l.length (vcC l) w) := by
  rcases h with ⟨rfl, a, c, rfl⟩ | h
  · have hO := Own.start w
    have hF := True.intro
    obtain ⟨i0, hi, hz0, hz1, hz2⟩ := info_parts infoN
    go_enter Tryd.func31, Tryd.ntmps31
    go_wp2_with (at_make; go_loud (refine wpList_make_item rfl _ _ 23 rfl 39 i0 (.agg #[.bool false, .int .i64 0, .int .i64 0, .int .i64 0, .int .i64 0, .bool false]) 6 48 Tryd.underlying23 hi hz0 hz1 hz2 _ _ _ _ 0 rfl rfl rfl rfl (by omega) (by unfold maxLen; omega) (by (repeat (first | (with_reducible exact hO) | (with_reducible apply Own.alloc) | (with_reducible apply Own.drew) | ((with_reducible apply Own.set_at); (focus (show _ ≤ _; omega)))))) ?_); clear hO hF; intro q w2 hO; have hF := True.intro)
    rw [madeN 0] at hO
    go_loopw [4] (fun t wr => t = .int .i64 0 ∧ Own w.heap.size (Below w.heap.size w) wr [.row 39 6 (.slice (some ⟨q, 0, none⟩) 0 0) 0 (vcC [])]) (fun _ _ => 0)
    case atStart => exact ⟨rfl, hO⟩
    case round =>
      clear hO
      obtain ⟨rfl, hO⟩ := hrel
      go_wp2_with fail
      go_ret
      exact RowOut.mk hO
  · exact toNS_any va l w h hn
end Go.Proofs.YtcgcnkddgihkpaaDoor
