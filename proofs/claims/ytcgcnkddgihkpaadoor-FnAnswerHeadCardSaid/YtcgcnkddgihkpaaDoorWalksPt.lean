/- Pitches in memory: their cells; the laws' own functions over slices of pitches. -/
import Derived.Test.YtcgcnkddgihkpaaDoorWalksPS
import Derived.Test.YtcgcnkddgihkpaaDoorOwn
import Derived.Test.YtcgcnkddgihkpaaDoorPure10
namespace Go.Proofs.YtcgcnkddgihkpaaDoor
set_option linter.unusedSimpArgs false
set_option linter.unusedVariables false
set_option maxRecDepth 8000
open Go.RowKit

/-- The cells of a pitch; of a list. -/
def ptC (x : Pt) : List Value := [.int .i64 x.s, .int .i64 x.a, .int .i64 x.o]
def pcC (v : List Pt) : List Value := v.flatMap ptC
theorem pcC_nil : pcC [] = [] := rfl
theorem pcC_append (u v : List Pt) : pcC (u ++ v) = pcC u ++ pcC v := by simp [pcC]
theorem pcC_snoc (u : List Pt) (x : Pt) : pcC u ++ [.int .i64 x.s, .int .i64 x.a, .int .i64 x.o] = pcC (u ++ [x]) := by simp [pcC, ptC]
theorem pcC_len : ∀ v : List Pt, (pcC v).length = v.length * 3
  | [] => rfl
  | x :: l => by
    have := pcC_len l
    simp only [pcC, List.flatMap_cons, List.length_append, List.length_cons] at this ⊢
    rw [this]
    have hx : (ptC x).length = 3 := rfl
    omega
theorem pcC_at : ∀ {v : List Pt} {k : Nat} {x : Pt}, v[k]? = some x → (pcC v)[k * 3]? = some (.int .i64 x.s) ∧ (pcC v)[k * 3 + 1]? = some (.int .i64 x.a) ∧ (pcC v)[k * 3 + 2]? = some (.int .i64 x.o)
  | [], k, x, h => by simp at h
  | z :: l, 0, x, h => by
    simp at h
    subst h
    exact ⟨rfl, rfl, rfl⟩
  | z :: l, k + 1, x, h => by
    have ih := pcC_at (v := l) (k := k) (x := x) (by simpa using h)
    have hz : (ptC z).length = 3 := rfl
    have e : ∀ i, (pcC (z :: l))[(k + 1) * 3 + i]? = (pcC l)[k * 3 + i]? := fun i => by
      show (ptC z ++ pcC l)[(k + 1) * 3 + i]? = _
      rw [List.getElem?_append_right (by omega)]
      congr 1; omega
    have e0 := e 0
    simp only [Nat.add_zero] at e0
    rw [e0, e 1, e 2]
    exact ih
theorem pcC_int (v : List Pt) : AllInt (pcC v) := by
  intro j u h
  have := List.mem_of_getElem? h
  unfold pcC at this
  obtain ⟨x, _, hx⟩ := List.mem_flatMap.1 this
  simp [ptC] at hx
  rcases hx with rfl | rfl | rfl <;> exact ⟨_, rfl⟩
theorem one3t {x y z : Int} : ∀ u ∈ [Value.int .i64 x, .int .i64 y, .int .i64 z], u.oneCell' = true := by
  intro u hu
  simp at hu
  rcases hu with rfl | rfl | rfl <;> rfl

theorem infoPi : (Tryd.prog.info? 37).map (fun i => (i.zero, i.size, i.bytes)) = some (some (.agg #[.int .i64 0, .int .i64 0, .int .i64 0]), 3, 24) := by kernel_rfl

theorem ptAt {w : World} {b off cap n : Nat} {v : List Pt} (h : SlAt w (.slice (some ⟨b, off, none⟩) n cap) n 3 (pcC v)) {j : Nat} {x : Pt} (hx : v[j]? = some x) :
    w.cell? ⟨b, off + j * 3, none⟩ = some (.int .i64 x.s) ∧ w.cell? ⟨b, off + j * 3 + 1, none⟩ = some (.int .i64 x.a) ∧ w.cell? ⟨b, off + j * 3 + 2, none⟩ = some (.int .i64 x.o) := by
  obtain ⟨h0, h1, h2⟩ := pcC_at hx
  exact ⟨h.cellAt h0, h.cellAt h1, h.cellAt h2⟩

/-- A slice of pitches that came in. -/
def PtsAt (w : World) (va : Value) (l : List Pt) : Prop := (l = [] ∧ ∃ a c, va = .slice a 0 c) ∨ SlAt w va l.length 3 (pcC l)
theorem PtsAt.below {w w' : World} {va : Value} {l : List Pt} (h : PtsAt w va l) (hb : Below w.heap.size w w') : PtsAt w' va l := h.imp id fun h => h.below hb

def pt0 : Pt := ⟨0, 0, 0⟩
theorem madeP (n : Nat) : (madeCells (Value.agg #[.int .i64 0, .int .i64 0, .int .i64 0]).cells (n * 3)).toList = pcC (List.replicate n pt0) := by
  have hz : (Value.agg #[.int .i64 0, .int .i64 0, .int .i64 0]).cells = #[.int .i64 0, .int .i64 0, .int .i64 0] := by kernel_rfl
  rw [hz]
  have := made_rep #[Value.int .i64 0, .int .i64 0, .int .i64 0] (by decide) n
  rw [show (#[Value.int .i64 0, .int .i64 0, .int .i64 0] : Array Value).size = 3 from rfl] at this
  rw [this, pcC, List.flatMap_def, List.map_replicate]
  rfl
theorem set3t {α : Type} {a b c a' b' c' : α} {zs : List α} {i : Nat} : ∀ {xs : List α}, xs.length = i → (((xs ++ a :: b :: c :: zs).set i a').set (i + 1) b').set (i + 2) c' = xs ++ (a' :: b' :: c' :: zs) := by
  intro xs h
  subst h
  simp [List.set_append]
theorem pcC_put {u : List Pt} {z x : Pt} {r : List Pt} {j : Nat} (h : u.length = j) :
    (((pcC (u ++ z :: r)).set (j * 3) (.int .i64 x.s)).set (j * 3 + 1) (.int .i64 x.a)).set (j * 3 + 2) (.int .i64 x.o) = pcC (u ++ x :: r) := by
  have hl := pcC_len u
  rw [pcC_append, pcC_append]
  show (((pcC u ++ (_ :: _ :: _ :: pcC r)).set _ _).set _ _).set _ _ = _
  rw [set3t (by omega)]
  rfl
/-- The first j pitches are laid, the others are zero. -/
def mixP (v : List Pt) (j : Nat) : List Pt := v.take j ++ List.replicate (v.length - j) pt0
theorem mixP_len (v : List Pt) (j : Nat) (h : j ≤ v.length) : (mixP v j).length = v.length := by simp [mixP]; omega
theorem mixP_full (v : List Pt) : mixP v v.length = v := by simp [mixP]
theorem mixP_zero (v : List Pt) : mixP v 0 = List.replicate v.length pt0 := by simp [mixP]
theorem mixP_put {v : List Pt} {j : Nat} {x : Pt} (hx : v[j]? = some x) :
    (((pcC (mixP v j)).set (j * 3) (.int .i64 x.s)).set (j * 3 + 1) (.int .i64 x.a)).set (j * 3 + 2) (.int .i64 x.o) = pcC (mixP v (j + 1)) := by
  have hl := (List.getElem?_eq_some_iff.1 hx).1
  unfold mixP
  rw [show v.length - j = (v.length - (j + 1)) + 1 by omega, List.replicate_succ, pcC_put (by simp; omega), List.take_add_one, hx]
  simp [pcC_append]

/-- A pitch of 64 bits. -/
def p64s (x : Pt) : Prop := r64 x.s ∧ r64 x.a ∧ r64 x.o
theorem p64_of {x : Pt} (h : (-1 ≤ x.s ∧ x.s ≤ 7) ∧ (-3 ≤ x.a ∧ x.a ≤ 3) ∧ (-1 ≤ x.o ∧ x.o ≤ 9)) : p64s x := by
  unfold p64s r64; omega
theorem p64_pv {x : Pt} (h : pvP x = true) : p64s x := by
  have := pvP_iff.1 h
  unfold p64s r64; omega
end Go.Proofs.YtcgcnkddgihkpaaDoor
