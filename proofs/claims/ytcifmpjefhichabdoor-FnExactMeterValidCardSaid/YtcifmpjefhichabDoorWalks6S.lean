/- Chapter 6 in the model: meters; the ticks of a bar; the beat of a tick; the number of bars. -/
import Derived.Test.YtcifmpjefhichabDoorWalks5T
import Derived.Test.YtcifmpjefhichabDoorPure6
import Derived.Test.YtcifmpjefhichabDoorOwnMake
namespace Go.Proofs.YtcifmpjefhichabDoor
set_option linter.unusedSimpArgs false
set_option linter.unusedVariables false
open Go.RowKit

set_option maxHeartbeats 4000000 in
theorem meS_any (b u : Int) (w : World) :
    Calls Tryd.prog 4 #[.agg #[.int .i64 b, .int .i64 u]] w fun e w' => e = .returned (.bool (meB b u)) ∧ Below w.heap.size w w' := by
  have hO := Own.start w
  have hF := True.intro
  go_enter Tryd.func4, Tryd.ntmps4
  go_wp2_with (go_at_call 7; refine (in_any _ _ _ _).mono ?_; rintro e w1 ⟨rfl, rfl⟩)
  all_goals go_ret
  all_goals exact ⟨ret_bool (by simp only [meB]; simp_all), Own.base (by (repeat (first | (with_reducible exact hO) | (with_reducible apply Own.alloc) | (with_reducible apply Own.drew) | ((with_reducible apply Own.set_at); (focus (show _ ≤ _; omega))))))⟩
theorem meS_is {b u : Int} {o : Bool} (h : meB b u = o) (w : World) :
    Calls Tryd.prog 4 #[.agg #[.int .i64 b, .int .i64 u]] w fun e w' => e = .returned (.bool o) ∧ Below w.heap.size w w' := by
  subst h; exact meS_any b u w

theorem me_div {b u : Int} (h : meB b u = true) : (b * 192).tdiv u = baZ b u := by
  have := (meB_iff.1 h).1
  exact Int.tdiv_eq_ediv_of_nonneg (by omega)
theorem me_beat2 {b u : Int} (_ : meB b u = true) : (192 : Int).tdiv u = beZ u := Int.tdiv_eq_ediv_of_nonneg (by omega)

/-- the bar of a tick, the beat in it, the ticks that are over. -/
def beO (b u t : Int) : Bool := meB b u && decide (0 ≤ t)
def beX (b u t : Int) : Int := if beO b u t then t / baZ b u else -1
def beY (b u t : Int) : Int := if beO b u t then t % baZ b u / beZ u else -1
def beW (b u t : Int) : Int := if beO b u t then t % beZ u else -1

/- Chapter 6 in the model: voices divided at bars. -/
open Go.RowKit

theorem cut_go {p S left : Int} {x : Nt} {done : List Nt} (hp : 1 ≤ p) (hl : 1 ≤ left) (h : cutL p S x.t x = done ++ cutL p (S + (x.t - left)) left x) :
    cutL p S x.t x = (done ++ [pcX p (S + (x.t - left)) left x]) ++ cutL p (S + (x.t - (left - pcN p (S + (x.t - left)) left))) (left - pcN p (S + (x.t - left)) left) x := by
  rw [h, cutL_step hp hl, List.append_assoc]
  rw [show S + (x.t - left) + pcN p (S + (x.t - left)) left = S + (x.t - (left - pcN p (S + (x.t - left)) left)) by omega]
  rfl
theorem min_pc {p at' left : Int} : pcN p at' left = if left < p - at' % p then left else p - at' % p := by
  unfold pcN
  split <;> omega
theorem sp_take_len {p : Int} (hp : 1 ≤ p) {v : List Nt} (h : voB v = true) (j : Nat) : ((spL p (v.take j)).length : Int) ≤ sumT (v.take j) :=
  sp_len hp (fun x hx => vo_pos h x (List.mem_of_mem_take hx))

/- Chapter 6 in the model: the last bar filled. -/
open Go.RowKit