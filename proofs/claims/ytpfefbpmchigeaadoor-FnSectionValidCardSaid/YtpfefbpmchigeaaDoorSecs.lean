/- Sections in memory: numbers in a slice; a section's three cells; a slice of sections. -/
import Derived.Test.YtpfefbpmchigeaaDoorOwnMake
import Derived.Test.YtpfefbpmchigeaaDoorPure7b
namespace Go.Proofs.YtpfefbpmchigeaaDoor
set_option linter.unusedSimpArgs false
set_option linter.unusedVariables false
open Go.RowKit

/-- A slice of numbers, empty or not. -/
def IntsAt (w : World) (va : Value) (l : List Int) : Prop := (l = [] ∧ ∃ a c, va = .slice a 0 c) ∨ SlAt w va l.length 1 (l.map (Value.int .i64))
theorem IntsAt.below {w w' : World} {va : Value} {l : List Int} (h : IntsAt w va l) (hb : Below w.heap.size w w') : IntsAt w' va l := h.imp id fun h => h.below hb
theorem IntsAt.open {w : World} {va : Value} {l : List Int} (h : IntsAt w va l) (hn : l.length ≤ 1048576) : ∃ A c, va = .slice A l.length c ∧ (0 < l.length → ∃ b off, A = some ⟨b, off, none⟩ ∧ l.length ≤ c ∧ c ≤ 9223372036854775807 ∧ b < w.heap.size ∧ ∀ (j : Nat) (x : Int), l[j]? = some x → w.cell? ⟨b, off + j, none⟩ = .some (.int .i64 x)) := by
  rcases h with ⟨rfl, a, c, rfl⟩ | h
  · exact ⟨a, c, rfl, fun h => by simp at h⟩
  · obtain ⟨A, c, rfl, nb, hA⟩ := h.open
    refine ⟨A, c, rfl, fun hp => ?_⟩
    obtain ⟨b, off, rfl, h1, h2, h3⟩ := hA hp
    exact ⟨b, off, rfl, h1, h2, h3, fun j x hj => h.cellAt (by rw [List.getElem?_map, hj]; rfl)⟩

/-- The cells of a list of sections: evs are the values of their endings. -/
def scC : List Sec → List Value → List Value
  | s :: l, ev :: r => .int .i64 s.b :: .int .i64 s.t :: ev :: scC l r
  | _, _ => []
theorem scC_at : ∀ {l : List Sec} {evs : List Value} {k : Nat} {s : Sec} {ev : Value}, l[k]? = some s → evs[k]? = some ev → (scC l evs)[k * 3]? = some (.int .i64 s.b) ∧ (scC l evs)[k * 3 + 1]? = some (.int .i64 s.t) ∧ (scC l evs)[k * 3 + 2]? = some ev
  | [], _, _, _, _, h, _ => by simp at h
  | _ :: _, [], _, _, _, _, h => by simp at h
  | z :: l, e :: r, 0, s, ev, h1, h2 => by
    simp at h1 h2
    subst h1 h2
    exact ⟨rfl, rfl, rfl⟩
  | z :: l, e :: r, k + 1, s, ev, h1, h2 => by
    have ih := scC_at (l := l) (evs := r) (k := k) (s := s) (ev := ev) (by simpa using h1) (by simpa using h2)
    rw [show (k + 1) * 3 = k * 3 + 3 by omega]
    exact ih
/-- A slice of sections. -/
def SecsAt (w : World) (va : Value) (l : List Sec) : Prop := (l = [] ∧ ∃ a c, va = .slice a 0 c) ∨ ∃ evs : List Value, evs.length = l.length ∧ SlAt w va l.length 3 (scC l evs) ∧ ∀ (k : Nat) (s : Sec) (ev : Value), l[k]? = some s → evs[k]? = some ev → IntsAt w ev s.e
theorem SecsAt.below {w w' : World} {va : Value} {l : List Sec} (h : SecsAt w va l) (hb : Below w.heap.size w w') : SecsAt w' va l :=
  h.imp id fun ⟨evs, h1, h2, h3⟩ => ⟨evs, h1, h2.below hb, fun k s ev a b => (h3 k s ev a b).below hb⟩
theorem SecsAt.open {w : World} {va : Value} {l : List Sec} (h : SecsAt w va l) : ∃ A c, va = .slice A l.length c ∧ (0 < l.length → ∃ b off, A = some ⟨b, off, none⟩ ∧ l.length ≤ c ∧ c ≤ 9223372036854775807 ∧ b < w.heap.size ∧
    ∀ (k : Nat) (s : Sec), l[k]? = some s → ∃ ev, IntsAt w ev s.e ∧ w.cell? ⟨b, off + k * 3, none⟩ = .some (.int .i64 s.b) ∧ w.cell? ⟨b, off + k * 3 + 1, none⟩ = .some (.int .i64 s.t) ∧ w.cell? ⟨b, off + k * 3 + 2, none⟩ = .some ev) := by
  rcases h with ⟨rfl, a, c, rfl⟩ | ⟨evs, h1, h2, h3⟩
  · exact ⟨a, c, rfl, fun h => by simp at h⟩
  · obtain ⟨A, c, rfl, nb, hA⟩ := h2.open
    refine ⟨A, c, rfl, fun hp => ?_⟩
    obtain ⟨b, off, rfl, g1, g2, g3⟩ := hA hp
    refine ⟨b, off, rfl, g1, g2, g3, fun k s hk => ?_⟩
    have hlt := (List.getElem?_eq_some_iff.1 hk).1
    obtain ⟨ev, hev⟩ : ∃ ev, evs[k]? = .some ev := ⟨_, List.getElem?_eq_getElem (by omega)⟩
    obtain ⟨c0, c1, c2⟩ := scC_at hk hev
    refine ⟨ev, h3 k s ev hk hev, h2.cellAt c0, ?_, ?_⟩
    · have := h2.cellAt c1; rwa [← Nat.add_assoc] at this
    · have := h2.cellAt c2; rwa [← Nat.add_assoc] at this
end Go.Proofs.YtpfefbpmchigeaaDoor
