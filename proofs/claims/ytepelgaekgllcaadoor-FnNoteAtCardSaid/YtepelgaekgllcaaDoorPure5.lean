/- Plain facts for chapter 5: notes and voices as lists. -/
import Derived.Test.YtepelgaekgllcaaDoorPure1b
namespace Go.Proofs.YtepelgaekgllcaaDoor
set_option linter.unusedSimpArgs false
set_option linter.unusedVariables false

/-- A note: is it a rest; its pitch; its ticks; is it tied. -/
structure Nt where
  r : Bool
  s : Int
  a : Int
  o : Int
  t : Int
  y : Bool

/-- the note is valid. -/
def nvB (x : Nt) : Bool := !(x.r && (x.y || !(x.s == 0 && x.a == 0 && x.o == 0))) && inB x.t 1 768 && pvB x.s x.a x.o
theorem nvB_iff {x : Nt} : nvB x = true ↔ (x.r = true → x.y = false ∧ x.s = 0 ∧ x.a = 0 ∧ x.o = 0) ∧ (1 ≤ x.t ∧ x.t ≤ 768) ∧ pvB x.s x.a x.o = true := by
  unfold nvB
  cases x.r <;> cases x.y <;> simp [inB_iff, and_assoc]
/-- two notes have the same pitch. -/
def toneB (x z : Nt) : Bool := z.s == x.s && z.a == x.a && z.o == x.o
theorem toneB_iff {x z : Nt} : toneB x z = true ↔ z.s = x.s ∧ z.a = x.a ∧ z.o = x.o := by simp [toneB, and_assoc]
/-- the tie of x leads to z. -/
def linkB (x z : Nt) : Bool := !x.y || (!z.r && toneB x z)
/-- all notes are valid, and every one that is tied is followed by one with the same pitch. -/
def tieB : List Nt → Bool
  | [] => true
  | [x] => nvB x && !x.y
  | x :: z :: l => nvB x && linkB x z && tieB (z :: l)
def voB (v : List Nt) : Bool := tieB v && decide (v.length ≤ 60)
theorem voB_iff {v : List Nt} : voB v = true ↔ tieB v = true ∧ v.length ≤ 60 := by simp [voB]
/-- the ticks of all notes. -/
def sumT : List Nt → Int
  | [] => 0
  | x :: l => x.t + sumT l
def vtZ (v : List Nt) : Int := if voB v then sumT v else -1
theorem sumT_append : ∀ (u v : List Nt), sumT (u ++ v) = sumT u + sumT v
  | [], v => by simp [sumT]
  | x :: u, v => by simp only [List.cons_append, sumT, sumT_append u v]; omega

theorem tieB_cons {x z : Nt} {l : List Nt} : tieB (x :: z :: l) = true ↔ nvB x = true ∧ linkB x z = true ∧ tieB (z :: l) = true := by simp [tieB, and_assoc]
theorem tieB_one {x : Nt} : tieB [x] = true ↔ nvB x = true ∧ x.y = false := by simp [tieB]
theorem tieB_tail {x : Nt} {l : List Nt} (h : tieB (x :: l) = true) : tieB l = true := by
  cases l with
  | nil => rfl
  | cons z l => exact (tieB_cons.1 h).2.2
theorem tieB_head {x : Nt} {l : List Nt} (h : tieB (x :: l) = true) : nvB x = true := by
  cases l with
  | nil => exact (tieB_one.1 h).1
  | cons z l => exact (tieB_cons.1 h).1
/-- by numbers. -/
theorem tieB_ix : ∀ {v : List Nt}, tieB v = true ↔ ∀ k x, v[k]? = some x → nvB x = true ∧ (x.y = true → ∃ z, v[k + 1]? = some z ∧ z.r = false ∧ toneB x z = true)
  | [] => by simp [tieB]
  | [x] => by
    rw [tieB_one]
    constructor
    · intro ⟨h1, h2⟩ k u hk
      cases k with
      | zero => simp at hk; subst hk; exact ⟨h1, fun h => by rw [h2] at h; cases h⟩
      | succ k => simp at hk
    · intro h
      obtain ⟨h1, h2⟩ := h 0 x rfl
      refine ⟨h1, ?_⟩
      cases hy : x.y with
      | false => rfl
      | true => obtain ⟨z, hz, _⟩ := h2 hy; simp at hz
  | x :: z :: l => by
    rw [tieB_cons, tieB_ix (v := z :: l)]
    constructor
    · intro ⟨h1, h2, h3⟩ k u hk
      cases k with
      | zero =>
        simp at hk; subst hk
        refine ⟨h1, fun hy => ⟨z, rfl, ?_⟩⟩
        simpa [linkB, hy] using h2
      | succ k => exact h3 k u (by simpa using hk)
    · intro h
      obtain ⟨h1, h2⟩ := h 0 x rfl
      refine ⟨h1, ?_, fun k u hk => h (k + 1) u (by simpa using hk)⟩
      unfold linkB
      cases hy : x.y with
      | false => rfl
      | true =>
        obtain ⟨z', hz, h3, h4⟩ := h2 hy
        simp at hz; subst hz
        simp [h3, h4]
theorem tieB_at {v : List Nt} {k : Nat} {x : Nt} (h : tieB v = true) (hk : v[k]? = some x) : nvB x = true := (tieB_ix.1 h k x hk).1
theorem tieB_drop {v : List Nt} (h : tieB v = true) (k : Nat) : tieB (v.drop k) = true := by
  rw [tieB_ix] at h ⊢
  intro j x hj
  rw [List.getElem?_drop] at hj
  obtain ⟨h1, h2⟩ := h _ _ hj
  refine ⟨h1, fun hy => ?_⟩
  obtain ⟨z, hz, h3⟩ := h2 hy
  exact ⟨z, by rw [List.getElem?_drop, ← hz]; congr 1, h3⟩
theorem nv_pos {x : Nt} (h : nvB x = true) : 1 ≤ x.t ∧ x.t ≤ 768 := (nvB_iff.1 h).2.1
theorem sumT_pos : ∀ {v : List Nt}, tieB v = true → (v.length : Int) ≤ sumT v ∧ sumT v ≤ 768 * v.length
  | [], _ => by simp [sumT]
  | x :: l, h => by
    have h1 := nv_pos (tieB_head h)
    have h2 := sumT_pos (tieB_tail h)
    simp only [sumT, List.length_cons]
    push_cast
    omega

/-! ### Parts of a voice -/

theorem tieB_take {v : List Nt} (h : tieB v = true) {k : Nat} (hk : k < v.length) {x : Nt} (hx : v[k]? = some x) : tieB (v.take (k + 1)) = !x.y := by
  cases hy : x.y
  · rw [Bool.not_false, tieB_ix]
    intro j u hj
    rw [List.getElem?_take] at hj
    split at hj
    · rename_i hlt
      obtain ⟨h1, h2⟩ := tieB_ix.1 h j u hj
      refine ⟨h1, fun hu => ?_⟩
      have hne : j ≠ k := fun e => by subst e; rw [hx] at hj; cases hj; rw [hy] at hu; cases hu
      obtain ⟨z, hz, h3⟩ := h2 hu
      exact ⟨z, by rw [List.getElem?_take, if_pos (by omega), hz], h3⟩
    · cases hj
  · cases ht : tieB (v.take (k + 1)) with
    | false => rfl
    | true =>
      have hj : (v.take (k + 1))[k]? = some x := by rw [List.getElem?_take, if_pos (by omega), hx]
      obtain ⟨z, hz, _⟩ := (tieB_ix.1 ht k x hj).2 hy
      rw [List.getElem?_take, if_neg (by omega)] at hz
      cases hz
theorem tieB_last {v : List Nt} (h : tieB v = true) {k : Nat} (hk : k + 1 = v.length) {x : Nt} (hx : v[k]? = some x) : x.y = false := by
  cases hy : x.y with
  | false => rfl
  | true =>
    obtain ⟨z, hz, _⟩ := (tieB_ix.1 h k x hx).2 hy
    have := (List.getElem?_eq_some_iff.1 hz).1
    omega
theorem voB_take {v : List Nt} (h : voB v = true) {k : Nat} {x : Nt} (hx : v[k]? = some x) : voB (v.take (k + 1)) = !x.y := by
  obtain ⟨h1, h2⟩ := voB_iff.1 h
  have hk := (List.getElem?_eq_some_iff.1 hx).1
  unfold voB
  rw [tieB_take h1 hk hx]
  simp
  omega
theorem voB_drop {v : List Nt} (h : voB v = true) (k : Nat) : voB (v.drop k) = true := by
  obtain ⟨h1, h2⟩ := voB_iff.1 h
  exact voB_iff.2 ⟨tieB_drop h1 k, by simp; omega⟩
theorem vt_parts {v : List Nt} (h : voB v = true) {k : Nat} {x : Nt} (hx : v[k]? = some x) (hy : x.y = false) : vtZ (v.take (k + 1)) + vtZ (v.drop (k + 1)) = vtZ v := by
  unfold vtZ
  rw [if_pos (by rw [voB_take h hx, hy]; rfl), if_pos (voB_drop h _), if_pos h, ← sumT_append, List.take_append_drop]

/-! ### The note at a tick -/

def naL : Nat → List Nt → Int → Int
  | _, [], _ => -1
  | k, x :: l, tick => if tick < x.t then k else naL (k + 1) l (tick - x.t)
def naZ (v : List Nt) (tick : Int) : Int := if voB v && decide (0 ≤ tick) then naL 0 v tick else -1
/-- the note that is found begins at the tick or before it, and ends behind it. -/
theorem naL_is : ∀ (v : List Nt) (k : Nat) (tick : Int), tieB v = true → 0 ≤ tick →
    (naL k v tick = -1 ∧ sumT v ≤ tick) ∨ ∃ (j : Nat) (x : Nt), naL k v tick = ((k + j : Nat) : Int) ∧ v[j]? = some x ∧ sumT (v.take j) ≤ tick ∧ tick < sumT (v.take j) + x.t
  | [], k, tick, _, h0 => Or.inl ⟨rfl, by simpa [sumT] using h0⟩
  | x :: l, k, tick, h, h0 => by
    unfold naL
    by_cases ht : tick < x.t
    · rw [if_pos ht]
      exact Or.inr ⟨0, x, by simp, rfl, by simpa [sumT] using h0, by simpa [sumT] using ht⟩
    · rw [if_neg ht]
      rcases naL_is l (k + 1) (tick - x.t) (tieB_tail h) (by omega) with ⟨h1, h2⟩ | ⟨j, z, h1, h2, h3, h4⟩
      · exact Or.inl ⟨h1, by simp only [sumT]; omega⟩
      · exact Or.inr ⟨j + 1, z, by rw [h1]; congr 1; omega, by simpa using h2, by simp only [List.take_succ_cons, sumT]; omega, by simp only [List.take_succ_cons, sumT]; omega⟩
theorem naL_bd (v : List Nt) (k : Nat) (tick : Int) (h : tieB v = true) (h0 : 0 ≤ tick) : -1 ≤ naL k v tick ∧ naL k v tick < k + v.length := by
  rcases naL_is v k tick h h0 with ⟨h1, _⟩ | ⟨j, x, h1, h2, _⟩
  · rw [h1]; omega
  · rw [h1]
    have := (List.getElem?_eq_some_iff.1 h2).1
    omega
end Go.Proofs.YtepelgaekgllcaaDoor
