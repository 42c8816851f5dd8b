/- A region that draws its order inside a wide fence (it holds a call of yield), by an invariant over the set of operations that have come up. No program in it. -/
import Derived.Test.YtmkhpafcgobfhaaDoorRegionInv
import Derived.Test.YtmkhpafcgobfhaaDoorRangeOwn
import Derived.OrdersIn
namespace Go.Proofs.YtmkhpafcgobfhaaDoor
set_option linter.unusedSimpArgs false
set_option linter.unusedVariables false
set_option maxRecDepth 8000
open Go.RowKit

section
variable {P : Program} {ops : Array Oper} {Q : Exit → Act → World → Prop} {n : Nat}

/-- What holds of an operation without a fence holds inside a wide one. -/
theorem wpIn_of_wp {o : Oper} {a : Act} {w : World} {K : Act → World → Prop} (h : o.wp P a w K Q) : o.wpIn Fence.wide n P a w K Q := by
  refine ⟨fun _ _ => trivial, ?_⟩
  rw [show Fence.wide.round = none from rfl, Oper.semAt_none]
  unfold Oper.wp at h
  generalize (execOp a.eval o).run P w = r at h ⊢
  cases r with
  | ok x w' =>
    cases x with
    | value v => exact h
    | skip => exact h
    | defer d => exact h
    | enter f args => exact ⟨fun e => by simp [Fence.wide] at e, callsIn_wide.2 h⟩
    | row row args => exact ⟨fun e => by simp [Fence.wide] at e, fun c cs _ => let ⟨v, w2, r, s⟩ := h c cs; ⟨v, w2, r, stepsIn_wide.2 s⟩⟩
    | _ => exact absurd h (by simp [Oper.upon])
  | halt x w' =>
    cases x with
    | panic v => exact h
    | _ => exact absurd h (by simp [Oper.upon])
theorem wpOpIn_plain {i : Nat} {oi : Oper} {K : Act → World → Prop} {a : Act} {w : World} (hi : ops[i]? = some oi) (hw : Region.wanted oi (yielded ops a.tmps) = true) (h : oi.wpIn Fence.wide n P a w K Q) : wpOpIn Fence.wide n P ops Q i K a w := by
  unfold wpOpIn
  simp only [hi, hw, if_true]
  exact h
/-- Op i inside the fence, whatever has come up beside what it waits for. -/
def StepRI (n : Nat) (P : Program) (ops : Array Oper) (Q : Exit → Act → World → Prop) (ds : List (Option Tmp)) (a : Act) (I : (Nat → Bool) → (Nat → Value) → World → Prop) (i : Nat) (ps : List Nat) : Prop :=
  ∀ l u w, l i = false → (∀ j ∈ ps, l j = true) → I l u w → ∀ K : Act → World → Prop, (∀ v w', I (updL l i) (updU u i v) w' → K (putsU ds 0 (updU u i v) a) w') → wpOpIn Fence.wide n P ops Q i K (putsU ds 0 u a) w
def AllRI (n : Nat) (P : Program) (ops : Array Oper) (Q : Exit → Act → World → Prop) (ds : List (Option Tmp)) (a : Act) (I : (Nat → Bool) → (Nat → Value) → World → Prop) (x : List (Nat × List Nat)) : Prop := ∀ y ∈ x, StepRI n P ops Q ds a I y.1 y.2
theorem AllRI.nil {ds : List (Option Tmp)} {a : Act} {I : (Nat → Bool) → (Nat → Value) → World → Prop} : AllRI n P ops Q ds a I [] := fun _ h => by cases h
theorem AllRI.cons {ds : List (Option Tmp)} {a : Act} {I : (Nat → Bool) → (Nat → Value) → World → Prop} {i : Nat} {ps : List Nat} {x : List (Nat × List Nat)} (h : StepRI n P ops Q ds a I i ps) (k : AllRI n P ops Q ds a I x) : AllRI n P ops Q ds a I ((i, ps) :: x) := fun y hy => by
  rcases List.mem_cons.1 hy with rfl | hy
  · exact h
  · exact k y hy

theorem region_invI {id : Nat} {a : Act} {w : World} (ds : List (Option Tmp)) (u0 : Nat → Value) (I : (Nat → Bool) → (Nat → Value) → World → Prop) (x : List (Nat × List Nat)) (hm : P.follows .mixedOrders = true)
    (hx : (List.range ops.size).map (fun i => (i, predsOf ops i)) = x) (ht : (x.all fun y => y.2.all fun j => decide (j < y.1)) = true)
    (ha : putsU ds 0 u0 a = a) (h0 : I (fun _ => false) u0 w.drew) (hs : AllRI n P ops Q ds a I x)
    (hf : ∀ l u w, (∀ j, j < ops.size → l j = true) → I l u w → Q .normal (putsU ds 0 u a) w) : (Code.region id ops true).wpIn Fence.wide n P Q a w := by
  subst hx
  have step : ∀ i, i < ops.size → StepRI n P ops Q ds a I i (predsOf ops i) := fun i hi => hs (i, predsOf ops i) (List.mem_map.2 ⟨i, List.mem_range.2 hi, rfl⟩)
  have topo : ∀ i, i < ops.size → ∀ j ∈ predsOf ops i, j < i := fun i hi j hj => by
    have h1 := List.all_eq_true.1 ht (i, predsOf ops i) (List.mem_map.2 ⟨i, List.mem_range.2 hi, rfl⟩)
    simpa using List.all_eq_true.1 h1 j hj
  suffices main : ∀ (fuel : Nat) (listed : Array Bool) (u : Nat → Value) (w : World), listed.size = ops.size → (List.range ops.size).countP (fun j => !listed.getD j false) ≤ fuel → I (fun j => listed.getD j false) u w → wpAnyIn Fence.wide n P .any ops Q fuel listed (putsU ds 0 u a) w by
    refine wpIn_region_any hm ?_
    rw [← ha]
    have hz : (fun j => (Array.replicate ops.size false).getD j false) = fun _ => false := funext fun j => by
      by_cases hj : j < ops.size <;> simp [Array.getD, hj]
    have := main ops.size (Array.replicate ops.size false) u0 w.drew (by simp) (by simpa using List.countP_le_length (p := fun j => !(Array.replicate ops.size false).getD j false) (l := List.range ops.size)) (by rw [hz]; exact h0)
    exact this
  have done : ∀ (listed : Array Bool), listed.size = ops.size → Region.ready .any ops listed = [] → ∀ j, j < ops.size → listed.getD j false = true := fun listed hsz hr j => by
    induction j using Nat.strongRecOn with
    | ind j ih =>
      intro hj
      cases hl : listed.getD j false with
      | true => rfl
      | false =>
        have : j ∈ Region.ready .any ops listed := mem_ready.2 ⟨by simpa [Array.getD, hsz, hj] using hl, ops[j], by simp [hj], fun e he hb => ih e.on (topo j hj e.on (by
            simp only [predsOf, Array.getElem?_eq_getElem hj, List.mem_map, List.mem_filter]
            exact ⟨e, ⟨by simpa using he, hb⟩, rfl⟩)) (Nat.lt_trans (topo j hj e.on (by
            simp only [predsOf, Array.getElem?_eq_getElem hj, List.mem_map, List.mem_filter]
            exact ⟨e, ⟨by simpa using he, hb⟩, rfl⟩)) hj)⟩
        rw [hr] at this
        cases this
  intro fuel
  induction fuel with
  | zero =>
    intro listed u w hsz hc hI
    have hall : ∀ j, j < ops.size → listed.getD j false = true := fun j hj => by
      have := List.countP_eq_zero.1 (Nat.le_zero.1 hc) j (List.mem_range.2 hj)
      simpa using this
    refine ⟨?_, hf _ _ _ hall hI⟩
    apply List.eq_nil_iff_forall_not_mem.2
    intro i hi
    obtain ⟨h1, oi, h2, _⟩ := mem_ready.1 hi
    have hlt : i < ops.size := (Array.getElem?_eq_some_iff.1 h2).1
    have := hall i hlt
    simp [Array.getD, hsz, hlt] at h1 this
    rw [h1] at this; cases this
  | succ fuel ih =>
    intro listed u w hsz hc hI
    refine ⟨fun hr => hf _ _ _ (done listed hsz hr) hI, fun i hi => ?_⟩
    obtain ⟨h1, oi, h2, h3⟩ := mem_ready.1 hi
    have hlt : i < ops.size := (Array.getElem?_eq_some_iff.1 h2).1
    have hli : listed.getD i false = false := by simpa [Array.getD, hsz, hlt] using h1
    refine step i hlt (fun j => listed.getD j false) u w hli (fun j hj => ?_) hI _ (fun v w' hI' => ih _ _ _ (by simpa using hsz) ?_ ?_)
    · simp only [predsOf, h2, List.mem_map, List.mem_filter] at hj
      obtain ⟨e, ⟨he, hb⟩, rfl⟩ := hj
      exact h3 e (by simpa using he) hb
    · have hlow : (List.range ops.size).countP (fun j => !(listed.setIfInBounds i true).getD j false) < (List.range ops.size).countP (fun j => !listed.getD j false) := by
        have h4 : ∀ j, ((listed.setIfInBounds i true).getD j false) = if j = i then true else listed.getD j false := fun j => by
          by_cases e : j = i
          · subst e; simp [Array.getD, hsz, hlt]
          · rw [if_neg e]
            by_cases hj : j < listed.size
            · simp [Array.getD, hj, Array.getElem_setIfInBounds, Ne.symm e]
            · simp [Array.getD, hj]
        rw [List.countP_congr (q := fun j => !(if j = i then true else listed.getD j false)) (fun j _ => by rw [h4])]
        obtain ⟨s, t, hst⟩ := List.append_of_mem (List.mem_range.2 hlt)
        rw [hst, List.countP_append, List.countP_append, List.countP_cons, List.countP_cons]
        have hmono : ∀ (l : List Nat), l.countP (fun j => !(if j = i then true else listed.getD j false)) ≤ l.countP (fun j => !listed.getD j false) := fun l => List.countP_mono_left fun j _ h => by
          by_cases e : j = i
          · simp [e] at h
          · simpa [e] using h
        have a1 := hmono s
        have a2 := hmono t
        simp [hli]
        simp at a1 a2
        omega
      omega
    · have h4 : (fun j => (listed.setIfInBounds i true).getD j false) = updL (fun j => listed.getD j false) i := funext fun j => by
        unfold updL
        by_cases e : j = i
        · subst e; simp [Array.getD, hsz, hlt]
        · rw [if_neg e]
          by_cases hj : j < listed.size
          · simp [Array.getD, hj, Array.getElem_setIfInBounds, Ne.symm e]
          · simp [Array.getD, hj]
      rw [h4]; exact hI'
end
end Go.Proofs.YtmkhpafcgobfhaaDoor
