/- Integers as cells. -/
import Derived.Test.YtcgcnkddgihkpaaDoorWalksPS
import Derived.Test.YtcgcnkddgihkpaaDoorRegionD
namespace Go.Proofs.YtcgcnkddgihkpaaDoor
set_option linter.unusedSimpArgs false
set_option linter.unusedVariables false
set_option maxRecDepth 8000
open Go.RowKit

theorem infoI10 : (Tryd.prog.info? 3).map (fun i => (i.zero, i.size, i.bytes)) = some (some (.int .i64 0), 1, 8) := by kernel_rfl
theorem one1t {x : Int} : ∀ u ∈ [Value.int .i64 x], u.oneCell' = true := by
  intro u hu
  simp at hu
  subst hu
  rfl
def intC (l : List Int) : List Value := l.map (Value.int .i64)
theorem intC_int (u : List Int) : AllInt (intC u) := fun j v h => by
  unfold intC at h
  rw [List.getElem?_map] at h
  cases e : u[j]? with
  | none => rw [e] at h; cases h
  | some z => rw [e] at h; exact ⟨z, (Option.some.inj h).symm⟩
theorem intC_len (u : List Int) : (intC u).length = u.length := by simp [intC]
/-- A number of 64 bits. -/
abbrev i64b (x : Int) : Prop := -9223372036854775808 ≤ x ∧ x ≤ 9223372036854775807

/- Integers in slices: what came in, copies, parts of a slice. -/
open Go.RowKit

/-- A slice of integers that came in, empty or not. -/
def IntsIn (w : World) (va : Value) (l : List Int) : Prop := (l = [] ∧ ∃ a c, va = .slice a 0 c) ∨ SlAt w va l.length 1 (intC l)
theorem IntsIn.below {w w' : World} {va : Value} {l : List Int} (h : IntsIn w va l) (hb : Below w.heap.size w w') : IntsIn w' va l := h.imp id fun h => h.below hb
theorem intC_get {l : List Int} {j : Nat} {x : Int} (h : l[j]? = some x) : (intC l)[j]? = some (.int .i64 x) := by
  unfold intC; rw [List.getElem?_map, h]; rfl
theorem intC_of {l : List Int} {j : Nat} {u : Value} (h : (intC l)[j]? = some u) : ∃ x, l[j]? = some x ∧ u = .int .i64 x := by
  unfold intC at h
  rw [List.getElem?_map] at h
  cases e : l[j]? with
  | none => rw [e] at h; cases h
  | some x => rw [e] at h; exact ⟨x, rfl, (Option.some.inj h).symm⟩
theorem inAt {w : World} {b off cap n : Nat} {l : List Int} (h : SlAt w (.slice (some ⟨b, off, none⟩) n cap) n 1 (intC l)) {j : Nat} {x : Int} (hx : l[j]? = some x) : w.cell? ⟨b, off + j, none⟩ = some (.int .i64 x) := h.cellAt (intC_get hx)
theorem IntsIn.open11 {w : World} {va : Value} {l : List Int} (h : IntsIn w va l) : ∃ A c, va = .slice A l.length c ∧ (0 < l.length → ∃ b off, A = some ⟨b, off, none⟩ ∧ l.length ≤ c ∧ c ≤ 9223372036854775807 ∧ b < w.heap.size ∧ ∀ (j : Nat) (x : Int), l[j]? = some x → w.cell? ⟨b, off + j, none⟩ = .some (.int .i64 x)) := by
  rcases h with ⟨rfl, a, c, rfl⟩ | h
  · exact ⟨a, c, rfl, fun h => by simp at h⟩
  · obtain ⟨A, c, rfl, nb, hA⟩ := h.open
    refine ⟨A, c, rfl, fun hp => ?_⟩
    obtain ⟨b, off, rfl, h1, h2, h3⟩ := hA hp
    exact ⟨b, off, rfl, h1, h2, h3, fun j x hj => inAt h hj⟩
/-- The first m of a slice; a part of it. -/
theorem slAt_takeN {w : World} {b off cap n m : Nat} {l : List Int} (h : SlAt w (.slice (some ⟨b, off, none⟩) n cap) n 1 (intC l)) (hm : m ≤ n) : SlAt w (.slice (some ⟨b, off, none⟩) m cap) m 1 (intC (l.take m)) := by
  have hl := h.1
  rw [intC_len] at hl
  rcases h.2 with ⟨h1, _⟩ | ⟨b', off', cap', h1, h2, h3, h4, h5⟩
  · cases h1
  · cases h1
    exact ⟨by rw [intC_len, List.length_take]; omega, Or.inr ⟨b, off, cap, rfl, by omega, h3, h4, fun j u hj => by
      obtain ⟨x, hx, rfl⟩ := intC_of hj
      have hlt := (List.getElem?_eq_some_iff.1 hx).1
      rw [List.length_take] at hlt
      rw [List.getElem?_take_of_lt (by omega)] at hx
      exact h5 j _ (intC_get hx)⟩⟩
theorem slAt_dropN {w : World} {b off cap n m : Nat} {l : List Int} (h : SlAt w (.slice (some ⟨b, off, none⟩) n cap) n 1 (intC l)) (hm : m ≤ n) : SlAt w (.slice (some ⟨b, off + m, none⟩) (n - m) (cap - m)) (n - m) 1 (intC (l.drop m)) := by
  have hl := h.1
  rw [intC_len] at hl
  rcases h.2 with ⟨h1, _⟩ | ⟨b', off', cap', h1, h2, h3, h4, h5⟩
  · cases h1
  · cases h1
    exact ⟨by rw [intC_len, List.length_drop]; omega, Or.inr ⟨b, off + m, cap - m, rfl, by omega, by omega, h4, fun j u hj => by
      obtain ⟨x, hx, rfl⟩ := intC_of hj
      rw [List.getElem?_drop] at hx
      rw [show off + m + j = off + (m + j) by omega]
      exact h5 _ _ (intC_get hx)⟩⟩
theorem get_upN {α : Type} {l : List α} {k : Nat} {x : α} (h : l[k]? = some x) : l.take (k + 1) = l.take k ++ [x] := by rw [List.take_add_one, h]; rfl
theorem madeZn (n : Nat) : (madeCells (Value.int .i64 0).cells (n * 1)).toList = intC (List.replicate n 0) := by
  have hz : (Value.int .i64 0).cells = #[.int .i64 0] := by kernel_rfl
  rw [hz]
  have := made_rep #[Value.int .i64 0] (by decide) n
  rw [show (#[Value.int .i64 0] : Array Value).size = 1 from rfl] at this
  rw [this]
  show _ = List.map (Value.int .i64) (List.replicate n 0)
  rw [List.map_replicate]
  clear this hz
  induction n with
  | zero => rfl
  | succ n ih => rw [List.replicate_succ, List.flatten_cons, ih, List.replicate_succ]; rfl
/-- The first k of them are laid, the others zero. -/
def mixZn (u : List Int) (k : Nat) : List Int := u.take k ++ List.replicate (u.length - k) 0
theorem mixZn_zero (u : List Int) : mixZn u 0 = List.replicate u.length 0 := by simp [mixZn]
theorem mixZn_full (u : List Int) : mixZn u u.length = u := by simp [mixZn]
theorem mixZn_len (u : List Int) {k : Nat} (h : k ≤ u.length) : (mixZn u k).length = u.length := by simp [mixZn]; omega
theorem mixZn_put {u : List Int} {k : Nat} {x : Int} (h : u[k]? = some x) : (intC (mixZn u k)).set k (.int .i64 x) = intC (mixZn u (k + 1)) := by
  have hl := (List.getElem?_eq_some_iff.1 h).1
  unfold mixZn
  rw [get_upN h, show u.length - k = (u.length - (k + 1)) + 1 by omega, List.replicate_succ]
  have ht : (u.take k).length = k := by rw [List.length_take]; omega
  unfold intC
  rw [← List.map_set, List.set_append, if_neg (by omega), ht, Nat.sub_self, List.set_cons_zero, List.append_assoc]
  rfl