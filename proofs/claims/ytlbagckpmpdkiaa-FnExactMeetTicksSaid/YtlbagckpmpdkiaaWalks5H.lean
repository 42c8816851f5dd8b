/- Chapter 5 in the model: moved voices. -/
import Derived.Test.YtlbagckpmpdkiaaWalks5T
import Derived.Test.YtlbagckpmpdkiaaOwn
import Derived.Test.YtlbagckpmpdkiaaPure5c
import Derived.Test.YtlbagckpmpdkiaaWalks2S
namespace Go.Proofs.Ytlbagckpmpdkiaa
set_option linter.unusedSimpArgs false
set_option linter.unusedVariables false
set_option maxRecDepth 8000
open Go.RowKit

theorem sh_len (v : List Nt) (st ha : Int) : (v.map (shX st ha)).length = v.length := by simp
theorem sh_up {v : List Nt} {st ha : Int} {j : Nat} {x : Nt} (hx : v[j]? = some x) : (v.map (shX st ha)).take j ++ [shX st ha x] = (v.map (shX st ha)).take (j + 1) := by
  rw [List.take_add_one, List.getElem?_map, hx]; rfl
theorem sh_all {v : List Nt} {st ha : Int} {n : Nat} (hn : v.length = n) (h : ∀ (k : Nat) (x : Nt), k < n → v[k]? = some x → shO st ha x = true) : v.all (shO st ha) = true := by
  rw [List.all_eq_true]
  intro x hx
  obtain ⟨k, hk⟩ := List.getElem?_of_mem hx
  have hl := (List.getElem?_eq_some_iff.1 hk).1
  exact h k x (by omega) hk
theorem sh_bad {v : List Nt} {st ha : Int} {k : Nat} {x : Nt} (hx : v[k]? = some x) (h : shO st ha x = false) : shB v st ha = false := by
  cases hb : shB v st ha with
  | false => rfl
  | true => have := (shB_iff.1 hb).2.2 x (List.mem_of_getElem? hx); rw [h] at this; cases this