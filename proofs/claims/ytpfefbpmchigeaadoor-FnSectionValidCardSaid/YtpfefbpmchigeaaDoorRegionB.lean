/- A region that draws its order: loads of what the base speaks of are taken first, whatever is written beside. No program in it. -/
import Derived.Test.YtpfefbpmchigeaaDoorRegion
namespace Go.Proofs.YtpfefbpmchigeaaDoor
set_option linter.unusedSimpArgs false
set_option linter.unusedVariables false
open Go.RowKit

theorem Own.bare {n : Nat} {B : World → Prop} {w : World} {L : List Item} (h : Own n B w L) : Own n B w [] := ⟨h.stab, h.base⟩

section
variable {P : Program} {ops : Array Oper} {Q : Exit → Act → World → Prop} {md : Region.Mode} {n : Nat} {B : World → Prop} {M : List Nat}

/-- An operation that yields one value wherever the base holds (a load of what the base speaks of): it may be taken first whatever the others write of what is owned. -/
theorem Sim.firstB {i : Nat} {oi : Oper} {v : Value} (hi : ops[i]? = some oi) (hsel : ∀ (j : Nat) (o : Oper) cs b, ops[j]? = some o → o.op ≠ .select cs b)
    (hQ : ∀ c a w, Q (.panic c) (a.put oi.dst v) w → Q (.panic c) a w) :
    ∀ (fuel : Nat) (listed : Array Bool) (a : Act) (L : List Item) (X : World → Prop),
      (∀ j oj, ops[j]? = some oj → j ≠ i → listed.getD j true = false → (∀ e ∈ oj.after, Region.binds md e = true → e.on ≠ i) → oi.apart ops oj = true) →
      i ∈ Region.ready md ops listed → YieldsO P ops n B [] oi v a → XStab X →
      Sim P md ops Q n B M fuel (listed.setIfInBounds i true) (a.put oi.dst v) L X → Sim P md ops Q n B M (fuel + 1) listed a L X := by
  intro fuel
  induction fuel with
  | zero =>
    intro listed a L X _ hr hy hX H
    refine ⟨fun h => (by rw [h] at hr; cases hr), fun j hj => ?_⟩
    by_cases hji : j = i
    · subst hji
      exact fun w hO hx => hy.wpOp hi hO.bare fun w' hb => ⟨L, X, hO.below hb, hX _ _ hx hb, hX, fun _ _ h => h, H⟩
    · have := ready_mono hj hji
      rw [H.1] at this
      cases this
  | succ fuel ih =>
    intro listed a L X hfree hr hy hX H
    refine ⟨fun h => (by rw [h] at hr; cases hr), fun j hj => ?_⟩
    by_cases hji : j = i
    · subst hji
      exact fun w hO hx => hy.wpOp hi hO.bare fun w' hb => ⟨L, X, hO.below hb, hX _ _ hx hb, hX, fun _ _ h => h, H⟩
    · intro w hO hx
      have h1 := H.2 j (ready_mono hj hji) w hO hx
      obtain ⟨hjun, oj, hoj, hall⟩ := mem_ready.1 hj
      have hnot : ∀ e ∈ oj.after, Region.binds md e = true → e.on ≠ i := fun e he hb heq => by
        have h1 := hall e he hb
        have h0 := (mem_ready.1 hr).1
        rw [heq] at h1
        rcases Nat.lt_or_ge i listed.size with h' | h'
        · simp [h'] at h0 h1; rw [h0] at h1; cases h1
        · simp [Array.getElem?_eq_none h'] at h1
      have h2 := wpOp_putO hoj (hfree j oj hoj hji hjun hnot) (fun cs b => hsel i oi cs b hi) (fun cs b => hsel j oj cs b hoj) hQ hy h1
      have up : ∀ k, (listed.setIfInBounds j true).getD k true = false → listed.getD k true = false := fun k hun => by
        by_cases hjk : j = k
        · subst hjk; exact hjun
        · rw [getD_set_ne true hjk] at hun; exact hun
      refine wpOp_mono (fun a' w' ⟨hy', L', X', hO', hX', hXS, he, hN⟩ => ⟨L', X', hO', hX', hXS, he,
        ih (listed.setIfInBounds j true) a' L' X' (fun k ok hk hki hun hno => hfree k ok hk hki (up k hun) hno) (ready_mono hr (Ne.symm hji)) hy' hXS ?_⟩) h2
      rw [Array.setIfInBounds_comm _ _ hji]
      exact hN

theorem Sim.takeB {i : Nat} {oi : Oper} {d : Option Tmp} {v : Value} {fuel : Nat} {listed : Array Bool} {a : Act} {L : List Item} {X : World → Prop} (hi : ops[i]? = some oi) (hd : oi.dst = d)
    (hs : Region.noSelect ops = true) (hf : Region.free md ops listed i = true) (hr : (Region.ready md ops listed).contains i = true)
    (hQ : ∀ c a w, Q (.panic c) (a.put oi.dst v) w → Q (.panic c) a w) (hX : XStab X) (hy : YieldsO P ops n B [] oi v a)
    (h : Sim P md ops Q n B M fuel (listed.setIfInBounds i true) (a.put d v) L X) : Sim P md ops Q n B M (fuel + 1) listed a L X := by
  subst hd
  exact Sim.firstB hi (Region.noSelect_spec hs) hQ fuel listed a L X (Region.free_spec hi hf) (by simpa using hr) hy hX h
end
end Go.Proofs.YtpfefbpmchigeaaDoor
