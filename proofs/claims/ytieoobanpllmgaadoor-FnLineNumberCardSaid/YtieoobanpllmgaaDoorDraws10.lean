/- The functions that draw for a law of chapter 10: a pitch and a kind; pitches, often of a chord. -/
import Derived.Test.YtieoobanpllmgaaDoorDrawBase
import Derived.Test.YtieoobanpllmgaaDoorWalks10T
namespace Go.Proofs.YtieoobanpllmgaaDoor
set_option linter.unusedSimpArgs false
set_option linter.unusedVariables false
set_option maxRecDepth 8000
open Go.RowKit

def ptOk (x : Pt) : Prop := (-1 ≤ x.s ∧ x.s ≤ 7) ∧ (-3 ≤ x.a ∧ x.a ≤ 3) ∧ (-1 ≤ x.o ∧ x.o ≤ 9)
theorem ptOk_pv {x : Pt} (h : pvP x = true) : ptOk x := by
  have := pvP_iff.1 h
  unfold ptOk; omega
theorem chL_ok (x : Pt) (k : Int) : ∀ y ∈ chL x k, ptOk y := fun y hy => ptOk_pv (List.all_eq_true.1 chL_all y hy)
theorem ok_snoc {v : List Pt} {x : Pt} (hv : ∀ z ∈ v, ptOk z) (hx : ptOk x) : ∀ z ∈ v ++ [x], ptOk z := fun z hz => by
  rcases List.mem_append.1 hz with h | h
  · exact hv z h
  · simp at h; subst h; exact hx
theorem pcC_drop (v : List Pt) (m : Nat) (hm : m ≤ v.length) : ∀ {j : Nat} {u : Value}, (pcC (v.drop m))[j]? = some u → (pcC v)[m * 3 + j]? = some u := by
  intro j u h
  have e : pcC v = pcC (v.take m) ++ pcC (v.drop m) := by rw [← pcC_append, List.take_append_drop]
  have hl : (pcC (v.take m)).length = m * 3 := by rw [pcC_len, List.length_take]; congr 1; omega
  rw [e, List.getElem?_append_right (by omega), hl, show m * 3 + j - m * 3 = j by omega]
  exact h
theorem slAt_dropP {w : World} {b off cap n m : Nat} {v : List Pt} (h : SlAt w (.slice (some ⟨b, off, none⟩) n cap) n 3 (pcC v)) (hv : v.length = n) (hm : m ≤ n) : SlAt w (.slice (some ⟨b, off + m * 3, none⟩) (n - m) (cap - m)) (n - m) 3 (pcC (v.drop m)) := by
  refine ⟨by rw [pcC_len, List.length_drop, hv], ?_⟩
  by_cases h0 : n - m = 0
  · right
    rcases h.2 with ⟨h1, _⟩ | ⟨b', off', cap', e, h1, h2, h3, h4⟩
    · cases h1
    · cases e
      refine ⟨b, off + m * 3, cap - m, rfl, by omega, by omega, h3, fun j u hj => ?_⟩
      have := h4 _ u (pcC_drop v m (by omega) hj)
      rw [show off + m * 3 + j = off + (m * 3 + j) by omega]
      exact this
  · right
    rcases h.2 with ⟨h1, _⟩ | ⟨b', off', cap', e, h1, h2, h3, h4⟩
    · cases h1
    · cases e
      refine ⟨b, off + m * 3, cap - m, rfl, by omega, by omega, h3, fun j u hj => ?_⟩
      have := h4 _ u (pcC_drop v m (by omega) hj)
      rw [show off + m * 3 + j = off + (m * 3 + j) by omega]
      exact this
/-- The first pitch in another octave. -/
def upO (o : Int) : List Pt → List Pt
  | [] => []
  | x :: l => ⟨x.s, x.a, o⟩ :: l
theorem upO_cells {o : Int} {l : List Pt} (h : 0 < l.length) : (pcC l).set 2 (.int .i64 o) = pcC (upO o l) := by
  cases l with
  | nil => simp at h
  | cons x l => rfl
theorem upO_len (o : Int) (l : List Pt) : (upO o l).length = l.length := by cases l <;> rfl
theorem upO_ok {o : Int} {l : List Pt} (h : ∀ x ∈ l, ptOk x) (h0 : -1 ≤ o ∧ o ≤ 9) : ∀ x ∈ upO o l, ptOk x := by
  cases l with
  | nil => exact h
  | cons x l =>
    intro y hy
    rcases List.mem_cons.1 hy with rfl | hy
    · have := h x List.mem_cons_self
      exact ⟨this.1, this.2.1, h0⟩
    · exact h y (List.mem_cons_of_mem _ hy)

/-- What drawing pitches leaves. -/
def DrewPs (r : Nat) (P : Int) (w : World) (e : Ending) (w' : World) : Prop :=
  ∃ (u : Value) (l : List Pt), (∀ x ∈ l, ptOk x) ∧ l.length ≤ 13 ∧ e = .returned u ∧ SlAt w' u l.length 3 (pcC l) ∧ Rd w' r (P + 200) ∧ ButR r w w'
theorem DrewPs.mk {r : Nat} {P Q : Int} {w w' : World} {u : Value} {l : List Pt} {L : List Item} (hO : Own w.heap.size (Bd r w Q) w' (.row 37 3 u l.length (pcC l) :: L)) (hQ : Q ≤ P + 200) (hv : ∀ x ∈ l, ptOk x) (hl : l.length ≤ 13) : DrewPs r P w (.returned u) w' :=
  ⟨u, l, hv, hl, rfl, SlAt.of_row hO.1.1, hO.base.2.mono hQ, hO.base.1⟩

theorem DrewPs.mk2 {r n : Nat} {P Q : Int} {w w' : World} {u : Value} {l : List Pt} {L : List Item} (hn : l.length = n) (hO : Own w.heap.size (Bd r w Q) w' (.row 37 3 u n (pcC l) :: L)) (hQ : Q ≤ P + 200) (hv : ∀ x ∈ l, ptOk x) (hl : n ≤ 13) : DrewPs r P w (.returned u) w' := by
  subst hn; exact DrewPs.mk hO hQ hv hl
theorem DrewPs.mk3 {r n q cap : Nat} {P Q : Int} {w w' : World} {l : List Pt} {L : List Item} (hn : l.length = n) (hO : Own w.heap.size (Bd r w Q) w' (.row 37 3 (.slice (some ⟨q, 0, none⟩) n cap) n (pcC l) :: L)) (hQ : Q ≤ P + 200) (hv : ∀ x ∈ l, ptOk x) (hl : n ≤ 13) (h1 : 1 ≤ n) : DrewPs r P w (.returned (.slice (some ⟨q, 0 + 1 * 3, none⟩) (n - 1) (cap - 1))) w' :=
  ⟨_, l.drop 1, fun x hx => hv x (List.mem_of_mem_drop hx), by rw [List.length_drop]; omega, rfl, by
    have := slAt_dropP (SlAt.of_row hO.1.1) hn h1
    rw [← hn] at this ⊢
    rw [List.length_drop]
    exact this, hO.base.2.mono hQ, hO.base.1⟩
theorem cells2 {l : List Pt} (h : 0 < l.length) : ∃ u, (pcC l)[2]? = some u := by
  cases l with
  | nil => simp at h
  | cons x l => exact ⟨_, rfl⟩

/-- What drawing for a law leaves: a pitch and a kind; pitches. -/
def DrewPk (w : World) (e : Ending) (w' : World) : Prop :=
  ∃ (x : Pt) (k : Int), ptOk x ∧ (-1 ≤ k ∧ k ≤ 9) ∧ e = .returned (.tuple #[.agg #[.int .i64 x.s, .int .i64 x.a, .int .i64 x.o], .int .i64 k]) ∧ Below w.heap.size w w'
def DrewLs (w : World) (e : Ending) (w' : World) : Prop :=
  ∃ (u : Value) (l : List Pt), (∀ x ∈ l, ptOk x) ∧ l.length ≤ 13 ∧ e = .returned u ∧ SlAt w' u l.length 3 (pcC l) ∧ Below w.heap.size w w'

end Go.Proofs.YtieoobanpllmgaaDoor
