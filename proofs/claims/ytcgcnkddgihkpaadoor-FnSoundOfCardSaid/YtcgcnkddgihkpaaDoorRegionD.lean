/- A region that draws its order: an operation that all writes still to come wait for, be it by way of others, is taken first. No program in it. -/
import Derived.Test.YtcgcnkddgihkpaaDoorOwn
import Derived.WalkSmall
import Derived.WalkKit
import Derived.WalkSpells
import Derived.WalkLawsBesides
import Derived.Deep.QuietTactic
import Derived.BigQuiet
namespace Go.Proofs.YtcgcnkddgihkpaaDoor
set_option linter.unusedSimpArgs false
set_option linter.unusedVariables false
set_option maxRecDepth 8000
open Go.RowKit

section
variable {P : Program} {ops : Array Oper} {Q : Exit → Act → World → Prop} {md : Region.Mode} {n : Nat} {B : World → Prop} {M : List Nat}

/-- D: number i and operations that wait for it, each for one of D; what may write and is still to come is in D. -/
def Region.deep (md : Region.Mode) (ops : Array Oper) (M D : List Nat) (listed : Array Bool) (i : Nat) : Bool :=
  D.contains i && D.all (fun d => !listed.getD d true) && D.all (fun d => d == i || match ops[d]? with
      | some od => od.after.any (fun e => Region.binds md e && D.contains e.on)
      | none => false) && (List.range ops.size).all fun j => D.contains j || listed.getD j true || !M.contains j

theorem Sim.firstD {i : Nat} {oi : Oper} {v : Value} (D : List Nat) (hi : ops[i]? = some oi) (hsel : ∀ (j : Nat) (o : Oper) cs b, ops[j]? = some o → o.op ≠ .select cs b)
    (hQ : ∀ c a w, Q (.panic c) (a.put oi.dst v) w → Q (.panic c) a w)
    (hD : ∀ d ∈ D, d ≠ i → ∀ od, ops[d]? = some od → ∃ e ∈ od.after, Region.binds md e = true ∧ e.on ∈ D) :
    ∀ (fuel : Nat) (listed : Array Bool) (a : Act) (L : List Item) (X : World → Prop),
      (∀ j oj, ops[j]? = some oj → j ≠ i → listed.getD j true = false → (∀ e ∈ oj.after, Region.binds md e = true → e.on ≠ i) → oi.apart ops oj = true) →
      (∀ d ∈ D, listed.getD d true = false) → (∀ j oj, ops[j]? = some oj → j ∉ D → listed.getD j true = false → M.contains j = false) →
      i ∈ Region.ready md ops listed → YieldsO P ops n B L oi v a → XStab X →
      Sim P md ops Q n B M fuel (listed.setIfInBounds i true) (a.put oi.dst v) L X → Sim P md ops Q n B M (fuel + 1) listed a L X := by
  intro fuel
  induction fuel with
  | zero =>
    intro listed a L X _ _ _ hr hy hX H
    refine ⟨fun h => (by rw [h] at hr; cases hr), fun j hj => ?_⟩
    by_cases hji : j = i
    · subst hji
      exact fun w hO hx => hy.wpOp hi hO fun w' hb => ⟨L, X, hO.below hb, hX _ _ hx hb, hX, fun _ _ h => h, H⟩
    · have := ready_mono hj hji
      rw [H.1] at this
      cases this
  | succ fuel ih =>
    intro listed a L X hfree hun hwr hr hy hX H
    refine ⟨fun h => (by rw [h] at hr; cases hr), fun j hj => ?_⟩
    by_cases hji : j = i
    · subst hji
      exact fun w hO hx => hy.wpOp hi hO fun w' hb => ⟨L, X, hO.below hb, hX _ _ hx hb, hX, fun _ _ h => h, H⟩
    · intro w hO hx
      have h1 := H.2 j (ready_mono hj hji) w hO hx
      obtain ⟨hjun, oj, hoj, hall⟩ := mem_ready.1 hj
      have hat : ∀ d, listed.getD d true = false → ∀ e ∈ oj.after, Region.binds md e = true → e.on ≠ d := fun d hd e he hb heq => by
        have h1 := hall e he hb
        rw [heq] at h1
        rcases Nat.lt_or_ge d listed.size with h' | h'
        · simp [h'] at hd h1; rw [hd] at h1; cases h1
        · simp [Array.getElem?_eq_none h'] at h1
      have hnot := hat i (mem_ready.1 hr).1
      have hjD : j ∉ D := fun hc => by
        obtain ⟨e, he, hb, hm⟩ := hD j hc hji oj hoj
        exact hat e.on (hun _ hm) e he hb rfl
      have h2 := wpOp_putO hoj (hfree j oj hoj hji hjun hnot) (fun cs b => hsel i oi cs b hi) (fun cs b => hsel j oj cs b hoj) hQ hy h1
      have hM := hwr j oj hoj hjD hjun
      have up : ∀ k, (listed.setIfInBounds j true).getD k true = false → listed.getD k true = false := fun k hun => by
        by_cases hjk : j = k
        · subst hjk; exact hjun
        · rw [getD_set_ne true hjk] at hun; exact hun
      refine wpOp_mono (fun a' w' ⟨hy', L', X', hO', hX', hXS, he, hN⟩ => ⟨L', X', hO', hX', hXS, he,
        ih (listed.setIfInBounds j true) a' L' X' (fun k ok hk hki hun hno => hfree k ok hk hki (up k hun) hno) (fun d hd => by rw [getD_set_ne true (fun e => hjD (by rw [e]; exact hd))]; exact hun d hd) (fun k ok hk hkD hun => hwr k ok hk hkD (up k hun)) (ready_mono hr (Ne.symm hji)) (hy'.ext (he hM)) hXS ?_⟩) h2
      rw [Array.setIfInBounds_comm _ _ hji]
      exact hN

/-- Take number i first. -/
theorem Sim.takeD {i : Nat} {oi : Oper} {d : Option Tmp} {v : Value} {fuel : Nat} {listed : Array Bool} {a : Act} {L : List Item} {X : World → Prop} (D : List Nat) (hi : ops[i]? = some oi) (hd : oi.dst = d)
    (hs : Region.noSelect ops = true) (hf : Region.free md ops listed i = true) (ht : Region.deep md ops M D listed i = true) (hr : (Region.ready md ops listed).contains i = true)
    (hQ : ∀ c a w, Q (.panic c) (a.put oi.dst v) w → Q (.panic c) a w) (hX : XStab X) (hy : YieldsO P ops n B L oi v a)
    (h : Sim P md ops Q n B M fuel (listed.setIfInBounds i true) (a.put d v) L X) : Sim P md ops Q n B M (fuel + 1) listed a L X := by
  subst hd
  unfold Region.deep at ht
  simp only [Bool.and_eq_true, List.all_eq_true] at ht
  obtain ⟨⟨⟨_, h2⟩, h3⟩, h4⟩ := ht
  refine Sim.firstD D hi (Region.noSelect_spec hs) hQ (fun e he hne od hod => ?_) fuel listed a L X (Region.free_spec hi hf) (fun e he => ?_) (fun j oj hj hjD hun => ?_) (by simpa using hr) hy hX h
  · have := h3 e he
    simp only [hod, Bool.or_eq_true, beq_iff_eq, hne, false_or] at this
    obtain ⟨x, hx, hb⟩ := Array.any_eq_true'.1 this
    simp only [Bool.and_eq_true] at hb
    exact ⟨x, hx, hb.1, by simpa using hb.2⟩
  · have := h2 e he
    simpa using this
  · have := h4 j (List.mem_range.2 (Array.getElem?_eq_some_iff.1 hj).1)
    simp only [Bool.or_eq_true, hun, Bool.false_eq_true, or_false, Bool.not_eq_true'] at this
    rcases this with h | h
    · exact absurd (by simpa using h) hjD
    · exact h

/- The same steps, with what is alike in all of them left to be found. -/
/-- An operation without memory. -/
theorem Sim.sP {i : Nat} {oi : Oper} {d : Option Tmp} {v : Value} {fuel : Nat} {listed : Array Bool} {a a' : Act} {L : List Item} {X : World → Prop} (hi : ops[i]? = some oi := by exact rfl) (hd : oi.dst = d := by exact rfl)
    (hs : Region.noSelect ops = true := by kernel_rfl) (hf : Region.free md ops listed i = true := by kernel_rfl) (hr : (Region.ready md ops listed).contains i = true := by kernel_rfl)
    (hQ : ∀ c a w, Q (.panic c) (a.put oi.dst v) w → Q (.panic c) a w := by exact fun _ _ _ h => h) (hX : XStab X := by first | exact XStab.true | exact XStab.rd | exact XStab.rdIf) (hy : Yields P ops oi v a := by ((first | refine Or.inl ⟨by rfl, fun w => ?_⟩ | (refine Or.inr ⟨by rfl, ?_⟩; with_reducible rfl)); (first | done | (go_simp; all_goals with_reducible rfl))))
    (ha : a.put d v = a' := by first | ((simp only [Act.put, List.setIfInBounds_toArray, List.set_cons_zero, List.set_cons_succ]) <;> exact rfl) | exact rfl)
    (h : Sim P md ops Q n B M fuel (listed.setIfInBounds i true) a' L X) : Sim P md ops Q n B M (fuel + 1) listed a L X := by
  subst ha
  exact Sim.takeP hi hd hs hf hr hQ hX hy h
/-- An operation that yields one value wherever what is owned holds. -/
theorem Sim.sO {i : Nat} {oi : Oper} {d : Option Tmp} {v : Value} {fuel : Nat} {listed : Array Bool} {a a' : Act} {L : List Item} {X : World → Prop} (hi : ops[i]? = some oi := by exact rfl) (hd : oi.dst = d := by exact rfl)
    (hs : Region.noSelect ops = true := by kernel_rfl) (hf : Region.free md ops listed i = true := by kernel_rfl) (ht : Region.tame md ops M listed i = true := by kernel_rfl) (hr : (Region.ready md ops listed).contains i = true := by kernel_rfl)
    (hQ : ∀ c a w, Q (.panic c) (a.put oi.dst v) w → Q (.panic c) a w := by exact fun _ _ _ h => h) (hX : XStab X := by first | exact XStab.true | exact XStab.rd | exact XStab.rdIf) (hy : YieldsO P ops n B L oi v a)
    (ha : a.put d v = a' := by first | ((simp only [Act.put, List.setIfInBounds_toArray, List.set_cons_zero, List.set_cons_succ]) <;> exact rfl) | exact rfl)
    (h : Sim P md ops Q n B M fuel (listed.setIfInBounds i true) a' L X) : Sim P md ops Q n B M (fuel + 1) listed a L X := by
  subst ha
  exact Sim.take hi hd hs hf ht hr hQ hX hy h
/-- The same, where writes still to come wait for it by way of others. -/
theorem Sim.sD {i : Nat} {oi : Oper} {d : Option Tmp} {v : Value} {fuel : Nat} {listed : Array Bool} {a a' : Act} {L : List Item} {X : World → Prop} (D : List Nat) (hi : ops[i]? = some oi := by exact rfl) (hd : oi.dst = d := by exact rfl)
    (hs : Region.noSelect ops = true := by kernel_rfl) (hf : Region.free md ops listed i = true := by kernel_rfl) (ht : Region.deep md ops M D listed i = true := by kernel_rfl) (hr : (Region.ready md ops listed).contains i = true := by kernel_rfl)
    (hQ : ∀ c a w, Q (.panic c) (a.put oi.dst v) w → Q (.panic c) a w := by exact fun _ _ _ h => h) (hX : XStab X := by first | exact XStab.true | exact XStab.rd | exact XStab.rdIf) (hy : YieldsO P ops n B L oi v a)
    (ha : a.put d v = a' := by first | ((simp only [Act.put, List.setIfInBounds_toArray, List.set_cons_zero, List.set_cons_succ]) <;> exact rfl) | exact rfl)
    (h : Sim P md ops Q n B M fuel (listed.setIfInBounds i true) a' L X) : Sim P md ops Q n B M (fuel + 1) listed a L X := by
  subst ha
  exact Sim.takeD D hi hd hs hf ht hr hQ hX hy h
end
end Go.Proofs.YtcgcnkddgihkpaaDoor
