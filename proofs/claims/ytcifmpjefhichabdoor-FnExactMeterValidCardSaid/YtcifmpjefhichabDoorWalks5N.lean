/- Chapter 5 in the model: ticks of a voice; the note at a tick; turned voices. -/
import Derived.Test.YtcifmpjefhichabDoorWalks5S
import Derived.Test.YtcifmpjefhichabDoorPure5
namespace Go.Proofs.YtcifmpjefhichabDoor
set_option linter.unusedSimpArgs false
set_option linter.unusedVariables false
open Go.RowKit

/- Chapter 5 in the model: joined ties. -/
open Go.RowKit

/-- What JoinTies hands back. -/
def jtL (v : List Nt) : List Nt := if voB v then joL v else []
theorem set5 {α : Type} {a b c d e f e' : α} {zs : List α} {i : Nat} {xs : List α} (h : xs.length = i) : (xs ++ a :: b :: c :: d :: e :: f :: zs).set (i + 4) e' = xs ++ (a :: b :: c :: d :: e' :: f :: zs) := by
  subst h
  simp [List.set_append]
theorem set5b {α : Type} {a b c d e f f' : α} {zs : List α} {i : Nat} {xs : List α} (h : xs.length = i) : (xs ++ a :: b :: c :: d :: e :: f :: zs).set (i + 5) f' = xs ++ (a :: b :: c :: d :: e :: f' :: zs) := by
  subst h
  simp [List.set_append]
/-- The ticks of the last note turn; its tie. -/
theorem vcC_setT {p : List Nt} {x : Nt} {m : Nat} {t : Int} (h : p.length = m) : (vcC (p ++ [x])).set (m * 6 + 4) (.int .i64 t) = vcC (p ++ [{ x with t := t }]) := by
  have hl := vcC_len p
  rw [vcC_append, vcC_append]
  exact set5 (by omega)
theorem vcC_setY {p : List Nt} {x : Nt} {m : Nat} {y : Bool} (h : p.length = m) : (vcC (p ++ [x])).set (m * 6 + 5) (.bool y) = vcC (p ++ [{ x with y := y }]) := by
  have hl := vcC_len p
  rw [vcC_append, vcC_append]
  exact set5b (by omega)
theorem last_at {p : List Nt} {x : Nt} {m : Nat} (h : p.length = m) : (p ++ [x])[m]? = some x := by
  subst h; simp
theorem drop_at {v : List Nt} {j : Nat} {x : Nt} (hx : v[j]? = some x) : v.drop j = x :: v.drop (j + 1) := by
  have hj := (List.getElem?_eq_some_iff.1 hx).1
  rw [List.drop_eq_getElem_cons hj]
  congr 1
  rw [List.getElem?_eq_getElem hj] at hx
  exact Option.some.inj hx