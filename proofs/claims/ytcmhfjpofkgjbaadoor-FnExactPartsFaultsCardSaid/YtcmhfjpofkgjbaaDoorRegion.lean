/- A region that draws its order, walked once: operations that yield one value wherever what is owned holds, and turn nothing that was there, may be taken in the order of the text, calls among them. No program in it. -/
import Derived.Test.YtcmhfjpofkgjbaaDoorOwn
import Derived.OrdersHeld
namespace Go.Proofs.YtcmhfjpofkgjbaaDoor
set_option linter.unusedSimpArgs false
set_option linter.unusedVariables false
set_option maxRecDepth 8000
open Go.RowKit

section
variable {P : Program} {ops : Array Oper} {Q : Exit → Act → World → Prop} {md : Region.Mode} {n : Nat} {B : World → Prop} {M : List Nat}

/-- A passing fact on the world, kept by calls that turn nothing that was there. -/
def XStab (X : World → Prop) : Prop := ∀ w w', X w → Below w.heap.size w w' → X w'

/-- What an operation has come to: the value v, and nothing that was there has turned. -/
def Out (P : Program) (v : Value) (w : World) : Result Next → Prop
  | .ok (.value u) w' => u = v ∧ Below w.heap.size w w'
  | .ok .skip w' => undef = v ∧ Below w.heap.size w w'
  | .ok (.enter f args) w' => Below w.heap.size w w' ∧ Calls P f args w' fun e w'' => e = .returned v ∧ Below w'.heap.size w' w''
  | .ok (.row row args) w' => Below w.heap.size w w' ∧ Rows P row args w' fun u w'' => u = v ∧ Below w'.heap.size w' w''
  | _ => False

/-- In state a, wherever L is owned, o yields v. -/
def YieldsO (P : Program) (ops : Array Oper) (n : Nat) (B : World → Prop) (L : List Item) (o : Oper) (v : Value) (a : Act) : Prop :=
  (Region.wanted o (yielded ops a.tmps) = true ∧ ∀ w, Own n B w L → Out P v w ((execOp a.eval o).run P w)) ∨
  (Region.wanted o (yielded ops a.tmps) = false ∧ v = undef)

theorem YieldsO.of_same {L : List Item} {o : Oper} {v : Value} {a a' : Act} (hy : YieldsO P ops n B L o v a) (he : execOp a'.eval o = execOp a.eval o)
    (hw : Region.wanted o (yielded ops a'.tmps) = Region.wanted o (yielded ops a.tmps)) : YieldsO P ops n B L o v a' := by
  unfold YieldsO at *
  rw [he, hw]
  exact hy

theorem YieldsO.ext {L L' : List Item} {o : Oper} {v : Value} {a : Act} (hy : YieldsO P ops n B L o v a) (h : ∀ w, Own n B w L' → Own n B w L) : YieldsO P ops n B L' o v a :=
  hy.imp (fun ⟨hw, hv⟩ => ⟨hw, fun w hO => hv w (h w hO)⟩) id

theorem YieldsO.wpOp {i : Nat} {L : List Item} {o : Oper} {v : Value} {a : Act} (hi : ops[i]? = some o) (hy : YieldsO P ops n B L o v a)
    {K : Act → World → Prop} {w : World} (hO : Own n B w L) (h : ∀ w', Below w.heap.size w w' → K (a.put o.dst v) w') : wpOp P ops Q i K a w := by
  unfold Go.wpOp
  simp only [hi]
  rcases hy with ⟨hw, hv⟩ | ⟨hw, rfl⟩
  · simp only [hw, if_true, Oper.wp]
    have hv := hv w hO
    refine .inl ?_
    generalize (execOp a.eval o).run P w = r at hv
    cases r with
    | ok nx w' =>
      cases nx <;> simp only [Out, Oper.upon] at hv ⊢
      case value u => obtain ⟨rfl, hb⟩ := hv; exact h _ hb
      case skip => obtain ⟨rfl, hb⟩ := hv; exact h _ hb
      case enter f args => exact Calls.mono hv.2 fun e w'' ⟨he, hb⟩ => by subst he; exact h _ (btr hv.1 hb)
      case row row args => exact Rows.mono hv.2 fun u w'' ⟨he, hb⟩ => by subst he; exact h _ (btr hv.1 hb)
    | halt x w' => exact (show False from by cases x <;> exact hv).elim
  · simp only [hw, Bool.false_eq_true, if_false]; exact h w (Below.refl _ _)

/-- wpOp_putIf's text for YieldsO. -/
theorem wpOp_putO {j : Nat} {L : List Item} {oi oj : Oper} {v : Value} (hj : ops[j]? = some oj) (hap : oi.apart ops oj = true)
    (hsi : ∀ cs b, oi.op ≠ .select cs b) (hsj : ∀ cs b, oj.op ≠ .select cs b)
    (hQ : ∀ c a w, Q (.panic c) (a.put oi.dst v) w → Q (.panic c) a w) {K : Act → World → Prop} {a : Act} {w : World}
    (hy : YieldsO P ops n B L oi v a) (h : wpOp P ops Q j K (a.put oi.dst v) w) :
    wpOp P ops Q j (fun a' w' => YieldsO P ops n B L oi v a' ∧ K (a'.put oi.dst v) w') a w := by
  obtain ⟨h1, h2, h3⟩ := Oper.apart_spec hap
  have keep : ∀ (a : Act), YieldsO P ops n B L oi v a → ∀ u, YieldsO P ops n B L oi v (a.put oj.dst u) := fun a hy u =>
    hy.of_same (execOp_put oi hsi a oj.dst u h3) (wanted_put oi a oj.dst u h3)
  have keepD : ∀ d, YieldsO P ops n B L oi v { a with defers := d :: a.defers } := fun d => hy.of_same rfl rfl
  unfold wpOp at *
  simp only [hj] at *
  rw [wanted_put oj a oi.dst v h1] at h
  split
  · rename_i hw
    simp only [hw, if_true] at h
    rcases h with h | ⟨hasks, hlets⟩
    case inr => exact .inr ⟨by unfold Oper.asks at *; rw [execOp_put oj hsj a oi.dst v h1] at hasks; exact hasks, hlets⟩
    refine .inl ?_
    unfold Oper.wp at *
    rw [execOp_put oj hsj a oi.dst v h1] at h
    generalize (execOp a.eval oj).run P w = r at *
    cases r with
    | ok nx w' =>
      cases nx <;> simp only [Oper.upon] at h ⊢
      case value u => exact ⟨keep a hy u, by rw [← Act.put_comm a v u h2]; exact h⟩
      case skip => exact ⟨keep a hy _, by rw [← Act.put_comm a v undef h2]; exact h⟩
      case defer d =>
        refine ⟨keep _ (keepD d) _, ?_⟩
        rw [← Act.put_comm _ v undef h2, ← Act.put_defers]
        exact h
      case enter f args =>
        refine Calls.mono h fun e w'' he => ?_
        cases e with
        | returned u => exact ⟨keep a hy u, by rw [← Act.put_comm a v u h2]; exact he⟩
        | panicked c => exact hQ _ _ _ he
        | outgrown => exact he
      case row row args => exact Rows.mono h fun u w'' he => ⟨keep a hy u, by rw [← Act.put_comm a v u h2]; exact he⟩
    | halt x w' =>
      cases x <;> simp only [Oper.upon] at h ⊢
      case panic u => exact hQ _ _ _ h
  · rename_i hw
    simp only [hw] at h
    exact ⟨keep a hy _, by rw [← Act.put_comm a v undef h2]; exact h⟩

/-- One operation, carried out wherever L is owned and X holds: it leads on to some L', X'. Those named in M may write what is owned. -/
def StepO (P : Program) (ops : Array Oper) (Q : Exit → Act → World → Prop) (n : Nat) (B : World → Prop) (M : List Nat) (i : Nat) (N : Act → List Item → (World → Prop) → Prop) (a : Act) (L : List Item) (X : World → Prop) : Prop :=
  ∀ w, Own n B w L → X w → wpOp P ops Q i (fun a' w' => ∃ L' X', Own n B w' L' ∧ X' w' ∧ XStab X' ∧ (M.contains i = false → ∀ w, Own n B w L' → Own n B w L) ∧ N a' L' X') a w

/-- Whatever order is picked from here on. -/
def Sim (P : Program) (md : Region.Mode) (ops : Array Oper) (Q : Exit → Act → World → Prop) (n : Nat) (B : World → Prop) (M : List Nat) : Nat → Array Bool → Act → List Item → (World → Prop) → Prop
  | 0, listed, a, L, X => Region.ready md ops listed = [] ∧ ∀ w, Own n B w L → X w → Q .normal a w
  | fuel + 1, listed, a, L, X =>
    (Region.ready md ops listed = [] → ∀ w, Own n B w L → X w → Q .normal a w) ∧
    ∀ i ∈ Region.ready md ops listed, StepO P ops Q n B M i (Sim P md ops Q n B M fuel (listed.setIfInBounds i true)) a L X

theorem wpAny_of_sim : ∀ (fuel : Nat) (listed : Array Bool) (a : Act) (L : List Item) (X : World → Prop) (w : World), Own n B w L → X w →
    Sim P md ops Q n B M fuel listed a L X → wpAny P md ops Q fuel listed a w
  | 0, _, _, _, _, w, hO, hX, h => ⟨h.1, h.2 w hO hX⟩
  | fuel + 1, _, _, _, _, w, hO, hX, h => ⟨fun hr => h.1 hr w hO hX, fun i hi => wpOp_mono (fun a' w' ⟨L', X', hO', hX', _, _, hN⟩ => wpAny_of_sim fuel _ a' L' X' w' hO' hX' hN) (h.2 i hi w hO hX)⟩

/-- No operation that may come before number i writes what is owned. -/
def Region.tame (md : Region.Mode) (ops : Array Oper) (M : List Nat) (listed : Array Bool) (i : Nat) : Bool :=
  (List.range ops.size).all fun j => j == i || listed.getD j true || !M.contains j || match ops[j]? with
      | some oj => oj.after.any (fun e => Region.binds md e && e.on == i)
      | none => true

theorem Region.tame_spec {i : Nat} {listed : Array Bool} (h : Region.tame md ops M listed i = true) (j : Nat) (oj : Oper)
    (hj : ops[j]? = some oj) (hne : j ≠ i) (hun : listed.getD j true = false) (hno : ∀ e ∈ oj.after, Region.binds md e = true → e.on ≠ i) : M.contains j = false := by
  simp only [Region.tame, List.all_eq_true, List.mem_range] at h
  have h1 := h j (Array.getElem?_eq_some_iff.1 hj).1
  simp only [hj, Bool.or_eq_true, beq_iff_eq, hne, false_or, hun, Bool.false_eq_true, Bool.not_eq_true'] at h1
  rcases h1 with h1 | h1
  · exact h1
  · obtain ⟨e, he, hb⟩ := Array.any_eq_true'.1 h1
    simp only [Bool.and_eq_true, beq_iff_eq] at hb
    exact absurd hb.2 (hno e he hb.1)

theorem Sim.first {i : Nat} {oi : Oper} {v : Value} (hi : ops[i]? = some oi) (hsel : ∀ (j : Nat) (o : Oper) cs b, ops[j]? = some o → o.op ≠ .select cs b)
    (hQ : ∀ c a w, Q (.panic c) (a.put oi.dst v) w → Q (.panic c) a w) :
    ∀ (fuel : Nat) (listed : Array Bool) (a : Act) (L : List Item) (X : World → Prop),
      (∀ j oj, ops[j]? = some oj → j ≠ i → listed.getD j true = false → (∀ e ∈ oj.after, Region.binds md e = true → e.on ≠ i) → oi.apart ops oj = true) →
      (∀ j oj, ops[j]? = some oj → j ≠ i → listed.getD j true = false → (∀ e ∈ oj.after, Region.binds md e = true → e.on ≠ i) → M.contains j = false) →
      i ∈ Region.ready md ops listed → YieldsO P ops n B L oi v a → XStab X →
      Sim P md ops Q n B M fuel (listed.setIfInBounds i true) (a.put oi.dst v) L X → Sim P md ops Q n B M (fuel + 1) listed a L X := by
  intro fuel
  induction fuel with
  | zero =>
    intro listed a L X _ _ hr hy hX H
    refine ⟨fun h => (by rw [h] at hr; cases hr), fun j hj => ?_⟩
    by_cases hji : j = i
    · subst hji
      exact fun w hO hx => hy.wpOp hi hO fun w' hb => ⟨L, X, hO.below hb, hX _ _ hx hb, hX, fun _ _ h => h, H⟩
    · have := ready_mono hj hji
      rw [H.1] at this
      cases this
  | succ fuel ih =>
    intro listed a L X hfree htame hr hy hX H
    refine ⟨fun h => (by rw [h] at hr; cases hr), fun j hj => ?_⟩
    by_cases hji : j = i
    · subst hji
      exact fun w hO hx => hy.wpOp hi hO fun w' hb => ⟨L, X, hO.below hb, hX _ _ hx hb, hX, fun _ _ h => h, H⟩
    · intro w hO hx
      have h1 := H.2 j (ready_mono hj hji) w hO hx
      obtain ⟨hjun, oj, hoj, hall⟩ := mem_ready.1 hj
      have hnot : ∀ e ∈ oj.after, Region.binds md e = true → e.on ≠ i := fun e he hb heq => by
        have h1 := hall e he hb
        have h0 := (mem_ready.1 hr).1
        rw [heq] at h1
        rcases Nat.lt_or_ge i listed.size with h' | h'
        · simp [h'] at h0 h1; rw [h0] at h1; cases h1
        · simp [Array.getElem?_eq_none h'] at h1
      have h2 := wpOp_putO hoj (hfree j oj hoj hji hjun hnot) (fun cs b => hsel i oi cs b hi) (fun cs b => hsel j oj cs b hoj) hQ hy h1
      have hM := htame j oj hoj hji hjun hnot
      have up : ∀ k, (listed.setIfInBounds j true).getD k true = false → listed.getD k true = false := fun k hun => by
        by_cases hjk : j = k
        · subst hjk; exact hjun
        · rw [getD_set_ne true hjk] at hun; exact hun
      refine wpOp_mono (fun a' w' ⟨hy', L', X', hO', hX', hXS, he, hN⟩ => ⟨L', X', hO', hX', hXS, he,
        ih (listed.setIfInBounds j true) a' L' X' (fun k ok hk hki hun hno => hfree k ok hk hki (up k hun) hno) (fun k ok hk hki hun hno => htame k ok hk hki (up k hun) hno) (ready_mono hr (Ne.symm hji)) (hy'.ext (he hM)) hXS ?_⟩) h2
      rw [Array.setIfInBounds_comm _ _ hji]
      exact hN

/-- Take number i first. -/
theorem Sim.take {i : Nat} {oi : Oper} {d : Option Tmp} {v : Value} {fuel : Nat} {listed : Array Bool} {a : Act} {L : List Item} {X : World → Prop} (hi : ops[i]? = some oi) (hd : oi.dst = d)
    (hs : Region.noSelect ops = true) (hf : Region.free md ops listed i = true) (ht : Region.tame md ops M listed i = true) (hr : (Region.ready md ops listed).contains i = true)
    (hQ : ∀ c a w, Q (.panic c) (a.put oi.dst v) w → Q (.panic c) a w) (hX : XStab X) (hy : YieldsO P ops n B L oi v a)
    (h : Sim P md ops Q n B M fuel (listed.setIfInBounds i true) (a.put d v) L X) : Sim P md ops Q n B M (fuel + 1) listed a L X := by
  subst hd
  exact Sim.first hi (Region.noSelect_spec hs) hQ fuel listed a L X (Region.free_spec hi hf) (Region.tame_spec ht) (by simpa using hr) hy hX h

/-- An operation that touches no memory: it may be taken first whatever the others write. -/
theorem Sim.firstP {i : Nat} {oi : Oper} {v : Value} (hi : ops[i]? = some oi) (hsel : ∀ (j : Nat) (o : Oper) cs b, ops[j]? = some o → o.op ≠ .select cs b)
    (hQ : ∀ c a w, Q (.panic c) (a.put oi.dst v) w → Q (.panic c) a w) :
    ∀ (fuel : Nat) (listed : Array Bool) (a : Act) (L : List Item) (X : World → Prop),
      (∀ j oj, ops[j]? = some oj → j ≠ i → listed.getD j true = false → (∀ e ∈ oj.after, Region.binds md e = true → e.on ≠ i) → oi.apart ops oj = true) →
      i ∈ Region.ready md ops listed → Yields P ops oi v a → XStab X →
      Sim P md ops Q n B M fuel (listed.setIfInBounds i true) (a.put oi.dst v) L X → Sim P md ops Q n B M (fuel + 1) listed a L X := by
  intro fuel
  induction fuel with
  | zero =>
    intro listed a L X _ hr hy hX H
    refine ⟨fun h => (by rw [h] at hr; cases hr), fun j hj => ?_⟩
    by_cases hji : j = i
    · subst hji
      exact fun w hO hx => hy.wpOp hi ⟨L, X, hO, hx, hX, fun _ _ h => h, H⟩
    · have := ready_mono hj hji
      rw [H.1] at this
      cases this
  | succ fuel ih =>
    intro listed a L X hfree hr hy hX H
    refine ⟨fun h => (by rw [h] at hr; cases hr), fun j hj => ?_⟩
    by_cases hji : j = i
    · subst hji
      exact fun w hO hx => hy.wpOp hi ⟨L, X, hO, hx, hX, fun _ _ h => h, H⟩
    · intro w hO hx
      have h1 := H.2 j (ready_mono hj hji) w hO hx
      obtain ⟨hjun, oj, hoj, hall⟩ := mem_ready.1 hj
      have hnot : ∀ e ∈ oj.after, Region.binds md e = true → e.on ≠ i := fun e he hb heq => by
        have h1 := hall e he hb
        have h0 := (mem_ready.1 hr).1
        rw [heq] at h1
        rcases Nat.lt_or_ge i listed.size with h' | h'
        · simp [h'] at h0 h1; rw [h0] at h1; cases h1
        · simp [Array.getElem?_eq_none h'] at h1
      have h2 := wpOp_put hoj (hfree j oj hoj hji hjun hnot) (fun cs b => hsel i oi cs b hi) (fun cs b => hsel j oj cs b hoj) hQ hy h1
      have up : ∀ k, (listed.setIfInBounds j true).getD k true = false → listed.getD k true = false := fun k hun => by
        by_cases hjk : j = k
        · subst hjk; exact hjun
        · rw [getD_set_ne true hjk] at hun; exact hun
      refine wpOp_mono (fun a' w' ⟨hy', L', X', hO', hX', hXS, he, hN⟩ => ⟨L', X', hO', hX', hXS, he,
        ih (listed.setIfInBounds j true) a' L' X' (fun k ok hk hki hun hno => hfree k ok hk hki (up k hun) hno) (ready_mono hr (Ne.symm hji)) hy' hXS ?_⟩) h2
      rw [Array.setIfInBounds_comm _ _ hji]
      exact hN

theorem Sim.takeP {i : Nat} {oi : Oper} {d : Option Tmp} {v : Value} {fuel : Nat} {listed : Array Bool} {a : Act} {L : List Item} {X : World → Prop} (hi : ops[i]? = some oi) (hd : oi.dst = d)
    (hs : Region.noSelect ops = true) (hf : Region.free md ops listed i = true) (hr : (Region.ready md ops listed).contains i = true)
    (hQ : ∀ c a w, Q (.panic c) (a.put oi.dst v) w → Q (.panic c) a w) (hX : XStab X) (hy : Yields P ops oi v a)
    (h : Sim P md ops Q n B M fuel (listed.setIfInBounds i true) (a.put d v) L X) : Sim P md ops Q n B M (fuel + 1) listed a L X := by
  subst hd
  exact Sim.firstP hi (Region.noSelect_spec hs) hQ fuel listed a L X (Region.free_spec hi hf) (by simpa using hr) hy hX h

/-- Number i alone may come up. -/
theorem Sim.one {i : Nat} {oi : Oper} {fuel : Nat} {listed : Array Bool} {a : Act} {L : List Item} {X : World → Prop} (hr : Region.ready md ops listed = [i]) (hi : ops[i]? = some oi) (hw : Region.wanted oi (yielded ops a.tmps) = true)
    (h : ∀ w, Own n B w L → X w → oi.wp P a w (fun a' w' => ∃ L' X', Own n B w' L' ∧ X' w' ∧ XStab X' ∧ (M.contains i = false → ∀ w, Own n B w L' → Own n B w L) ∧ Sim P md ops Q n B M fuel (listed.setIfInBounds i true) a' L' X') Q) : Sim P md ops Q n B M (fuel + 1) listed a L X := by
  refine ⟨fun h0 => (by rw [hr] at h0; cases h0), fun j hj => ?_⟩
  rw [hr] at hj
  obtain rfl := List.mem_singleton.1 hj
  intro w hO hx
  unfold wpOp
  simp only [hi, hw, if_true]
  exact .inl (h w hO hx)

/-- The same, the way on kept from the walk's simp. -/
theorem Sim.one' {i : Nat} {oi : Oper} {fuel : Nat} {listed : Array Bool} {a : Act} {L : List Item} {X : World → Prop} (hr : Region.ready md ops listed = [i]) (hi : ops[i]? = some oi) (hw : Region.wanted oi (yielded ops a.tmps) = true)
    (h : ∀ w, Own n B w L → X w → ∀ K : Act → World → Prop, (∀ a' w' L' X', Own n B w' L' → X' w' → XStab X' → (M.contains i = false → ∀ w, Own n B w L' → Own n B w L) → Sim P md ops Q n B M fuel (listed.setIfInBounds i true) a' L' X' → K a' w') → oi.wp P a w K Q) : Sim P md ops Q n B M (fuel + 1) listed a L X :=
  Sim.one hr hi hw fun w hO hX => h w hO hX _ fun _ _ L' X' h1 h2 h3 h4 h5 => ⟨L', X', h1, h2, h3, h4, h5⟩

/-- Each of those that may come up. -/
def AllS (P : Program) (md : Region.Mode) (ops : Array Oper) (Q : Exit → Act → World → Prop) (n : Nat) (B : World → Prop) (M : List Nat) (fuel : Nat) (listed : Array Bool) (a : Act) (L : List Item) (X : World → Prop) (rs : List Nat) : Prop :=
  ∀ i ∈ rs, StepO P ops Q n B M i (Sim P md ops Q n B M fuel (listed.setIfInBounds i true)) a L X
theorem AllS.nil {fuel : Nat} {listed : Array Bool} {a : Act} {L : List Item} {X : World → Prop} : AllS P md ops Q n B M fuel listed a L X [] := fun _ h => by cases h
theorem AllS.cons {i : Nat} {oi : Oper} {rs : List Nat} {fuel : Nat} {listed : Array Bool} {a : Act} {L : List Item} {X : World → Prop} (hi : ops[i]? = some oi) (hw : Region.wanted oi (yielded ops a.tmps) = true)
    (h : ∀ w, Own n B w L → X w → ∀ K : Act → World → Prop, (∀ a' w' L' X', Own n B w' L' → X' w' → XStab X' → (M.contains i = false → ∀ w, Own n B w L' → Own n B w L) → Sim P md ops Q n B M fuel (listed.setIfInBounds i true) a' L' X' → K a' w') → oi.wp P a w K Q)
    (hs : AllS P md ops Q n B M fuel listed a L X rs) : AllS P md ops Q n B M fuel listed a L X (i :: rs) := fun j hj => by
  rcases List.mem_cons.1 hj with rfl | hj
  · intro w hO hx
    unfold wpOp
    simp only [hi, hw, if_true]
    exact .inl (h w hO hx _ fun _ _ L' X' h1 h2 h3 h4 h5 => ⟨L', X', h1, h2, h3, h4, h5⟩)
  · exact hs j hj
theorem Sim.many {rs : List Nat} {fuel : Nat} {listed : Array Bool} {a : Act} {L : List Item} {X : World → Prop} (hr : Region.ready md ops listed = rs) (hne : rs ≠ [])
    (h : AllS P md ops Q n B M fuel listed a L X rs) : Sim P md ops Q n B M (fuel + 1) listed a L X := ⟨fun h0 => absurd (hr ▸ h0) hne, hr ▸ h⟩

/-- All have come up. -/
theorem Sim.done {listed : Array Bool} {a : Act} {L : List Item} {X : World → Prop} (hr : Region.ready md ops listed = []) (h : ∀ w, Own n B w L → X w → Q .normal a w) : ∀ fuel, Sim P md ops Q n B M fuel listed a L X
  | 0 => ⟨hr, h⟩
  | _ + 1 => ⟨fun _ => h, by rw [hr]; simp⟩

/-- The beginning. -/
theorem region_own {id : Nat} {a : Act} {w : World} {L : List Item} {X : World → Prop} (M : List Nat) (hm : P.follows .mixedOrders = true) (hO : Own n B w L) (hX : X w) (hS : XStab X)
    (h : Sim P .any ops Q n B M ops.size (Array.replicate ops.size false) a L X) : (Code.region id ops true).wp P Q a w :=
  wp_region_any hm (wpAny_of_sim _ _ _ _ _ _ hO.drew (hS _ _ hX (below_drew1 _)) h)

theorem XStab.true : XStab fun _ => True := fun _ _ _ _ => trivial
/-- The operation has run. -/
theorem Out.same {v : Value} {w : World} {r : Result Next} (h : r = .ok (.value v) w) : Out P v w r := by subst h; exact ⟨rfl, Below.refl _ _⟩
theorem Out.call {v : Value} {w : World} {r : Result Next} {f : FuncId} {args : Array Value} (h : r = .ok (.enter f args) w) (hc : Calls P f args w fun e w'' => e = .returned v ∧ Below w.heap.size w w'') : Out P v w r := by subst h; exact ⟨Below.refl _ _, hc⟩
end
end Go.Proofs.YtcmhfjpofkgjbaaDoor
