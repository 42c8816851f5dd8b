/- Chapter 5 in the model: ticks of a voice; the note at a tick; turned voices. -/
import Derived.Test.YtcgcnkddgihkpaaDoorWalks5S
import Derived.Test.YtcgcnkddgihkpaaDoorPure5
import Derived.Test.YtcgcnkddgihkpaaDoorRegionD
namespace Go.Proofs.YtcgcnkddgihkpaaDoor
set_option linter.unusedSimpArgs false
set_option linter.unusedVariables false
set_option maxRecDepth 8000
open Go.RowKit

theorem sumT_up {v : List Nt} {j : Nat} {x : Nt} (hx : v[j]? = some x) : sumT (v.take (j + 1)) = sumT (v.take j) + x.t := by
  rw [List.take_add_one, hx, sumT_append]; simp [sumT]
theorem sumT_bd {v : List Nt} (h : voB v = true) (j : Nat) : 0 ≤ sumT (v.take j) ∧ sumT (v.take j) ≤ 46080 := by
  obtain ⟨h1, h2⟩ := voB_iff.1 h
  have ha : sumT v = sumT (v.take j) + sumT (v.drop j) := by rw [← sumT_append, List.take_append_drop]
  have hb := sumT_pos h1
  have hc := sumT_pos (tieB_drop h1 j)
  have hd : ∀ (l : List Nt), (∀ x ∈ l, 0 ≤ x.t) → 0 ≤ sumT l := by
    intro l
    induction l with
    | nil => intro _; simp [sumT]
    | cons a l ih => intro hl; have := hl a (by simp); have := ih (fun x hx => hl x (by simp [hx])); simp only [sumT]; omega
  have he := hd (v.take j) (fun x hx => by
    obtain ⟨i, hi⟩ := List.getElem?_of_mem (List.mem_of_mem_take hx)
    have := nv_pos (tieB_at h1 hi)
    omega)
  omega
theorem vo_at {v : List Nt} (h : voB v = true) {j : Nat} {x : Nt} (hx : v[j]? = some x) : 1 ≤ x.t ∧ x.t ≤ 768 := nv_pos (tieB_at (voB_iff.1 h).1 hx)
theorem voS_is {va : Value} {v : List Nt} {w : World} {n : Nat} {b : Bool} (hn : v.length = n) (ha : SlAt w va n 6 (vcC v)) (hl : n ≤ 1048576) (h : voB v = b) (W : World) (hW : Below w.heap.size w W) :
    Calls Tryd.prog 56 #[va] W fun e w' => e = .returned (.bool b) ∧ Below W.heap.size W w' := by
  subst hn h
  exact voS_any va v W (ha.below hW) hl

/- Chapter 5 in the model: joined ties. -/
open Go.RowKit

/-- What JoinTies hands back. -/
def jtL (v : List Nt) : List Nt := if voB v then joL v else []
theorem set5 {α : Type} {a b c d e f e' : α} {zs : List α} {i : Nat} {xs : List α} (h : xs.length = i) : (xs ++ a :: b :: c :: d :: e :: f :: zs).set (i + 4) e' = xs ++ (a :: b :: c :: d :: e' :: f :: zs) := by
  subst h
  simp [List.set_append]
theorem set5b {α : Type} {a b c d e f f' : α} {zs : List α} {i : Nat} {xs : List α} (h : xs.length = i) : (xs ++ a :: b :: c :: d :: e :: f :: zs).set (i + 5) f' = xs ++ (a :: b :: c :: d :: e :: f' :: zs) := by
  subst h
  simp [List.set_append]
/-- The ticks of the last note turn; its tie. -/
theorem vcC_setT {p : List Nt} {x : Nt} {m : Nat} {t : Int} (h : p.length = m) : (vcC (p ++ [x])).set (m * 6 + 4) (.int .i64 t) = vcC (p ++ [{ x with t := t }]) := by
  have hl := vcC_len p
  rw [vcC_append, vcC_append]
  exact set5 (by omega)
theorem vcC_setY {p : List Nt} {x : Nt} {m : Nat} {y : Bool} (h : p.length = m) : (vcC (p ++ [x])).set (m * 6 + 5) (.bool y) = vcC (p ++ [{ x with y := y }]) := by
  have hl := vcC_len p
  rw [vcC_append, vcC_append]
  exact set5b (by omega)
theorem last_at {p : List Nt} {x : Nt} {m : Nat} (h : p.length = m) : (p ++ [x])[m]? = some x := by
  subst h; simp
theorem drop_at {v : List Nt} {j : Nat} {x : Nt} (hx : v[j]? = some x) : v.drop j = x :: v.drop (j + 1) := by
  have hj := (List.getElem?_eq_some_iff.1 hx).1
  rw [List.drop_eq_getElem_cons hj]
  congr 1
  rw [List.getElem?_eq_getElem hj] at hx
  exact Option.some.inj hx