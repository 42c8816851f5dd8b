/- Plain facts for chapter 5: notes and voices as lists. -/
import Derived.Test.YtcgcnkddgihkpaaDoorPure1
namespace Go.Proofs.YtcgcnkddgihkpaaDoor
set_option linter.unusedSimpArgs false
set_option linter.unusedVariables false
set_option maxRecDepth 8000

/-- A note: is it a rest; its pitch; its ticks; is it tied. -/
structure Nt where
  r : Bool
  s : Int
  a : Int
  o : Int
  t : Int
  y : Bool

/-- the note is valid. -/
def nvB (x : Nt) : Bool := !(x.r && (x.y || !(x.s == 0 && x.a == 0 && x.o == 0))) && inB x.t 1 768 && pvB x.s x.a x.o
theorem nvB_iff {x : Nt} : nvB x = true ↔ (x.r = true → x.y = false ∧ x.s = 0 ∧ x.a = 0 ∧ x.o = 0) ∧ (1 ≤ x.t ∧ x.t ≤ 768) ∧ pvB x.s x.a x.o = true := by
  unfold nvB
  cases x.r <;> cases x.y <;> simp [inB_iff, and_assoc]
/-- two notes have the same pitch. -/
def toneB (x z : Nt) : Bool := z.s == x.s && z.a == x.a && z.o == x.o
theorem toneB_iff {x z : Nt} : toneB x z = true ↔ z.s = x.s ∧ z.a = x.a ∧ z.o = x.o := by simp [toneB, and_assoc]
/-- the tie of x leads to z. -/
def linkB (x z : Nt) : Bool := !x.y || (!z.r && toneB x z)
/-- all notes are valid, and every one that is tied is followed by one with the same pitch. -/
def tieB : List Nt → Bool
  | [] => true
  | [x] => nvB x && !x.y
  | x :: z :: l => nvB x && linkB x z && tieB (z :: l)
def voB (v : List Nt) : Bool := tieB v && decide (v.length ≤ 60)
theorem voB_iff {v : List Nt} : voB v = true ↔ tieB v = true ∧ v.length ≤ 60 := by simp [voB]
/-- the ticks of all notes. -/
def sumT : List Nt → Int
  | [] => 0
  | x :: l => x.t + sumT l
def vtZ (v : List Nt) : Int := if voB v then sumT v else -1
theorem sumT_append : ∀ (u v : List Nt), sumT (u ++ v) = sumT u + sumT v
  | [], v => by simp [sumT]
  | x :: u, v => by simp only [List.cons_append, sumT, sumT_append u v]; omega

theorem tieB_cons {x z : Nt} {l : List Nt} : tieB (x :: z :: l) = true ↔ nvB x = true ∧ linkB x z = true ∧ tieB (z :: l) = true := by simp [tieB, and_assoc]
theorem tieB_one {x : Nt} : tieB [x] = true ↔ nvB x = true ∧ x.y = false := by simp [tieB]
theorem tieB_tail {x : Nt} {l : List Nt} (h : tieB (x :: l) = true) : tieB l = true := by
  cases l with
  | nil => rfl
  | cons z l => exact (tieB_cons.1 h).2.2
theorem tieB_head {x : Nt} {l : List Nt} (h : tieB (x :: l) = true) : nvB x = true := by
  cases l with
  | nil => exact (tieB_one.1 h).1
  | cons z l => exact (tieB_cons.1 h).1
/-- by numbers. -/
theorem tieB_ix : ∀ {v : List Nt}, tieB v = true ↔ ∀ k x, v[k]? = some x → nvB x = true ∧ (x.y = true → ∃ z, v[k + 1]? = some z ∧ z.r = false ∧ toneB x z = true)
  | [] => by simp [tieB]
  | [x] => by
    rw [tieB_one]
    constructor
    · intro ⟨h1, h2⟩ k u hk
      cases k with
      | zero => simp at hk; subst hk; exact ⟨h1, fun h => by rw [h2] at h; cases h⟩
      | succ k => simp at hk
    · intro h
      obtain ⟨h1, h2⟩ := h 0 x rfl
      refine ⟨h1, ?_⟩
      cases hy : x.y with
      | false => rfl
      | true => obtain ⟨z, hz, _⟩ := h2 hy; simp at hz
  | x :: z :: l => by
    rw [tieB_cons, tieB_ix (v := z :: l)]
    constructor
    · intro ⟨h1, h2, h3⟩ k u hk
      cases k with
      | zero =>
        simp at hk; subst hk
        refine ⟨h1, fun hy => ⟨z, rfl, ?_⟩⟩
        simpa [linkB, hy] using h2
      | succ k => exact h3 k u (by simpa using hk)
    · intro h
      obtain ⟨h1, h2⟩ := h 0 x rfl
      refine ⟨h1, ?_, fun k u hk => h (k + 1) u (by simpa using hk)⟩
      unfold linkB
      cases hy : x.y with
      | false => rfl
      | true =>
        obtain ⟨z', hz, h3, h4⟩ := h2 hy
        simp at hz; subst hz
        simp [h3, h4]
theorem tieB_at {v : List Nt} {k : Nat} {x : Nt} (h : tieB v = true) (hk : v[k]? = some x) : nvB x = true := (tieB_ix.1 h k x hk).1
theorem tieB_drop {v : List Nt} (h : tieB v = true) (k : Nat) : tieB (v.drop k) = true := by
  rw [tieB_ix] at h ⊢
  intro j x hj
  rw [List.getElem?_drop] at hj
  obtain ⟨h1, h2⟩ := h _ _ hj
  refine ⟨h1, fun hy => ?_⟩
  obtain ⟨z, hz, h3⟩ := h2 hy
  exact ⟨z, by rw [List.getElem?_drop, ← hz]; congr 1, h3⟩
theorem nv_pos {x : Nt} (h : nvB x = true) : 1 ≤ x.t ∧ x.t ≤ 768 := (nvB_iff.1 h).2.1
theorem sumT_pos : ∀ {v : List Nt}, tieB v = true → (v.length : Int) ≤ sumT v ∧ sumT v ≤ 768 * v.length
  | [], _ => by simp [sumT]
  | x :: l, h => by
    have h1 := nv_pos (tieB_head h)
    have h2 := sumT_pos (tieB_tail h)
    simp only [sumT, List.length_cons]
    push_cast
    omega

/-! ### Parts of a voice -/

theorem tieB_take {v : List Nt} (h : tieB v = true) {k : Nat} (hk : k < v.length) {x : Nt} (hx : v[k]? = some x) : tieB (v.take (k + 1)) = !x.y := by
  cases hy : x.y
  · rw [Bool.not_false, tieB_ix]
    intro j u hj
    rw [List.getElem?_take] at hj
    split at hj
    · rename_i hlt
      obtain ⟨h1, h2⟩ := tieB_ix.1 h j u hj
      refine ⟨h1, fun hu => ?_⟩
      have hne : j ≠ k := fun e => by subst e; rw [hx] at hj; cases hj; rw [hy] at hu; cases hu
      obtain ⟨z, hz, h3⟩ := h2 hu
      exact ⟨z, by rw [List.getElem?_take, if_pos (by omega), hz], h3⟩
    · cases hj
  · cases ht : tieB (v.take (k + 1)) with
    | false => rfl
    | true =>
      have hj : (v.take (k + 1))[k]? = some x := by rw [List.getElem?_take, if_pos (by omega), hx]
      obtain ⟨z, hz, _⟩ := (tieB_ix.1 ht k x hj).2 hy
      rw [List.getElem?_take, if_neg (by omega)] at hz
      cases hz
theorem tieB_last {v : List Nt} (h : tieB v = true) {k : Nat} (hk : k + 1 = v.length) {x : Nt} (hx : v[k]? = some x) : x.y = false := by
  cases hy : x.y with
  | false => rfl
  | true =>
    obtain ⟨z, hz, _⟩ := (tieB_ix.1 h k x hx).2 hy
    have := (List.getElem?_eq_some_iff.1 hz).1
    omega
theorem voB_take {v : List Nt} (h : voB v = true) {k : Nat} {x : Nt} (hx : v[k]? = some x) : voB (v.take (k + 1)) = !x.y := by
  obtain ⟨h1, h2⟩ := voB_iff.1 h
  have hk := (List.getElem?_eq_some_iff.1 hx).1
  unfold voB
  rw [tieB_take h1 hk hx]
  simp
  omega
theorem voB_drop {v : List Nt} (h : voB v = true) (k : Nat) : voB (v.drop k) = true := by
  obtain ⟨h1, h2⟩ := voB_iff.1 h
  exact voB_iff.2 ⟨tieB_drop h1 k, by simp; omega⟩
theorem vt_parts {v : List Nt} (h : voB v = true) {k : Nat} {x : Nt} (hx : v[k]? = some x) (hy : x.y = false) : vtZ (v.take (k + 1)) + vtZ (v.drop (k + 1)) = vtZ v := by
  unfold vtZ
  rw [if_pos (by rw [voB_take h hx, hy]; rfl), if_pos (voB_drop h _), if_pos h, ← sumT_append, List.take_append_drop]

/-! ### The note at a tick -/

def naL : Nat → List Nt → Int → Int
  | _, [], _ => -1
  | k, x :: l, tick => if tick < x.t then k else naL (k + 1) l (tick - x.t)
def naZ (v : List Nt) (tick : Int) : Int := if voB v && decide (0 ≤ tick) then naL 0 v tick else -1
/-- the note that is found begins at the tick or before it, and ends behind it. -/
theorem naL_is : ∀ (v : List Nt) (k : Nat) (tick : Int), tieB v = true → 0 ≤ tick →
    (naL k v tick = -1 ∧ sumT v ≤ tick) ∨ ∃ (j : Nat) (x : Nt), naL k v tick = ((k + j : Nat) : Int) ∧ v[j]? = some x ∧ sumT (v.take j) ≤ tick ∧ tick < sumT (v.take j) + x.t
  | [], k, tick, _, h0 => Or.inl ⟨rfl, by simpa [sumT] using h0⟩
  | x :: l, k, tick, h, h0 => by
    unfold naL
    by_cases ht : tick < x.t
    · rw [if_pos ht]
      exact Or.inr ⟨0, x, by simp, rfl, by simpa [sumT] using h0, by simpa [sumT] using ht⟩
    · rw [if_neg ht]
      rcases naL_is l (k + 1) (tick - x.t) (tieB_tail h) (by omega) with ⟨h1, h2⟩ | ⟨j, z, h1, h2, h3, h4⟩
      · exact Or.inl ⟨h1, by simp only [sumT]; omega⟩
      · exact Or.inr ⟨j + 1, z, by rw [h1]; congr 1; omega, by simpa using h2, by simp only [List.take_succ_cons, sumT]; omega, by simp only [List.take_succ_cons, sumT]; omega⟩
theorem naL_bd (v : List Nt) (k : Nat) (tick : Int) (h : tieB v = true) (h0 : 0 ≤ tick) : -1 ≤ naL k v tick ∧ naL k v tick < k + v.length := by
  rcases naL_is v k tick h h0 with ⟨h1, _⟩ | ⟨j, x, h1, h2, _⟩
  · rw [h1]; omega
  · rw [h1]
    have := (List.getElem?_eq_some_iff.1 h2).1
    omega

/- Plain facts for chapter 5: joined ties; turned voices. -/

/-- two notes, the first one tied, as one. -/
def mergeN (x z : Nt) : Nt := { x with t := x.t + z.t, y := z.y }
def joF : Nt → List Nt → List Nt
  | x, [] => [x]
  | x, z :: l => if x.y = true ∧ x.t + z.t ≤ 768 then joF (mergeN x z) l else x :: joF z l
/-- the voice with its ties joined. -/
def joL : List Nt → List Nt
  | [] => []
  | x :: l => joF x l
theorem joF_nil (x : Nt) : joF x [] = [x] := rfl
theorem joF_yes {x z : Nt} {l : List Nt} (h : x.y = true ∧ x.t + z.t ≤ 768) : joF x (z :: l) = joF (mergeN x z) l := by rw [joF, if_pos h]
theorem joF_no {x z : Nt} {l : List Nt} (h : ¬ (x.y = true ∧ x.t + z.t ≤ 768)) : joF x (z :: l) = x :: joF z l := by rw [joF, if_neg h]

theorem tie_rest {x : Nt} (h : nvB x = true) (hy : x.y = true) : x.r = false := by
  cases hr : x.r with
  | false => rfl
  | true => have := ((nvB_iff.1 h).1 hr).1; rw [hy] at this; cases this
theorem merge_tie {x z : Nt} {l : List Nt} (h : tieB (x :: z :: l) = true) (hy : x.y = true) (ht : x.t + z.t ≤ 768) : tieB (mergeN x z :: l) = true := by
  obtain ⟨h1, h2, h3⟩ := tieB_cons.1 h
  have hr := tie_rest h1 hy
  have hz := tieB_head h3
  obtain ⟨x1, ⟨x2, x3⟩, x4⟩ := nvB_iff.1 h1
  obtain ⟨z1, ⟨z2, z3⟩, z4⟩ := nvB_iff.1 hz
  have hl : z.r = false ∧ toneB x z = true := by simpa [linkB, hy] using h2
  have hm : nvB (mergeN x z) = true := nvB_iff.2 ⟨fun h => absurd (hr.symm.trans h) (by decide), by simp only [mergeN]; omega, by simpa only [mergeN] using x4⟩
  cases l with
  | nil => exact tieB_one.2 ⟨hm, (tieB_one.1 h3).2⟩
  | cons u l =>
    obtain ⟨_, h4, h5⟩ := tieB_cons.1 h3
    refine tieB_cons.2 ⟨hm, ?_, h5⟩
    unfold linkB at h4 ⊢
    obtain ⟨e1, e2, e3⟩ := toneB_iff.1 hl.2
    simpa only [mergeN, toneB, e1, e2, e3] using h4
theorem jo_head : ∀ (l : List Nt) (x : Nt), tieB (x :: l) = true → ∃ x' m, joF x l = x' :: m ∧ x'.r = x.r ∧ toneB x x' = true ∧ x.t ≤ x'.t
  | [], x, _ => ⟨x, [], rfl, rfl, by simp [toneB], by omega⟩
  | z :: l, x, h => by
    by_cases hm : x.y = true ∧ x.t + z.t ≤ 768
    · rw [joF_yes hm]
      obtain ⟨x', m, h1, h2, h3, h4⟩ := jo_head l (mergeN x z) (merge_tie h hm.1 hm.2)
      have hz := nv_pos (tieB_head (tieB_tail h))
      exact ⟨x', m, h1, h2, by simpa [toneB, mergeN] using h3, by simp only [mergeN] at h4; omega⟩
    · rw [joF_no hm]
      exact ⟨x, _, rfl, rfl, by simp [toneB], by omega⟩
theorem jo_tie : ∀ (l : List Nt) (x : Nt), tieB (x :: l) = true → tieB (joF x l) = true
  | [], _, h => h
  | z :: l, x, h => by
    by_cases hm : x.y = true ∧ x.t + z.t ≤ 768
    · rw [joF_yes hm]
      exact jo_tie l _ (merge_tie h hm.1 hm.2)
    · rw [joF_no hm]
      obtain ⟨h1, h2, h3⟩ := tieB_cons.1 h
      have ih := jo_tie l z h3
      obtain ⟨z', m, e, r1, r2, _⟩ := jo_head l z h3
      rw [e] at ih ⊢
      refine tieB_cons.2 ⟨h1, ?_, ih⟩
      unfold linkB at h2 ⊢
      rw [r1]
      obtain ⟨e1, e2, e3⟩ := toneB_iff.1 r2
      simpa only [toneB, e1, e2, e3] using h2
theorem jo_sum : ∀ (l : List Nt) (x : Nt), sumT (joF x l) = x.t + sumT l
  | [], x => by simp [joF, sumT]
  | z :: l, x => by
    by_cases hm : x.y = true ∧ x.t + z.t ≤ 768
    · rw [joF_yes hm, jo_sum l]; simp only [mergeN, sumT]; omega
    · rw [joF_no hm]; simp only [sumT, jo_sum l z]
theorem jo_len : ∀ (l : List Nt) (x : Nt), (joF x l).length ≤ l.length + 1
  | [], x => by simp [joF]
  | z :: l, x => by
    by_cases hm : x.y = true ∧ x.t + z.t ≤ 768
    · rw [joF_yes hm]; have := jo_len l (mergeN x z); simp only [List.length_cons]; omega
    · rw [joF_no hm]; have := jo_len l z; simp only [List.length_cons]; omega
/-- nothing can be joined. -/
def stP : List Nt → Prop
  | [] => True
  | [_] => True
  | x :: z :: l => ¬ (x.y = true ∧ x.t + z.t ≤ 768) ∧ stP (z :: l)
theorem jo_stable : ∀ (l : List Nt) (x : Nt), stP (x :: l) → joF x l = x :: l
  | [], _, _ => rfl
  | z :: l, x, h => by rw [joF_no h.1, jo_stable l z h.2]
theorem jo_st : ∀ (l : List Nt) (x : Nt), tieB (x :: l) = true → stP (joF x l)
  | [], _, _ => trivial
  | z :: l, x, h => by
    by_cases hm : x.y = true ∧ x.t + z.t ≤ 768
    · rw [joF_yes hm]
      exact jo_st l _ (merge_tie h hm.1 hm.2)
    · rw [joF_no hm]
      have h3 := tieB_tail h
      have ih := jo_st l z h3
      obtain ⟨z', m, e, _, _, r3⟩ := jo_head l z h3
      rw [e] at ih ⊢
      exact ⟨fun ⟨a, b⟩ => hm ⟨a, by omega⟩, ih⟩
theorem joL_again {v : List Nt} (h : tieB v = true) : joL (joL v) = joL v := by
  cases v with
  | nil => rfl
  | cons x l =>
    show joL (joF x l) = joF x l
    have hs := jo_st l x h
    obtain ⟨x', m, e, _⟩ := jo_head l x h
    rw [e] at hs ⊢
    exact jo_stable m x' hs
theorem joL_tie {v : List Nt} (h : tieB v = true) : tieB (joL v) = true := by
  cases v with
  | nil => rfl
  | cons x l => exact jo_tie l x h
theorem joL_sum (v : List Nt) : sumT (joL v) = sumT v := by
  cases v with
  | nil => rfl
  | cons x l => exact jo_sum l x
theorem joL_len (v : List Nt) : (joL v).length ≤ v.length := by
  cases v with
  | nil => simp [joL]
  | cons x l => exact jo_len l x
theorem joL_vo {v : List Nt} (h : voB v = true) : voB (joL v) = true := by
  obtain ⟨h1, h2⟩ := voB_iff.1 h
  exact voB_iff.2 ⟨joL_tie h1, by have := joL_len v; omega⟩

/-- what sounds at a tick. -/
def sndL : List Nt → Int → Option (Bool × Int × Int × Int)
  | [], _ => none
  | x :: l, tick => if tick < x.t then some (x.r, x.s, x.a, x.o) else sndL l (tick - x.t)
theorem jo_snd : ∀ (l : List Nt) (x : Nt) (tick : Int), tieB (x :: l) = true → sndL (joF x l) tick = sndL (x :: l) tick
  | [], _, _, _ => rfl
  | z :: l, x, tick, h => by
    by_cases hm : x.y = true ∧ x.t + z.t ≤ 768
    · rw [joF_yes hm, jo_snd l _ tick (merge_tie h hm.1 hm.2)]
      obtain ⟨h1, h2, h3⟩ := tieB_cons.1 h
      have hr := tie_rest h1 hm.1
      have hl : z.r = false ∧ toneB x z = true := by simpa [linkB, hm.1] using h2
      obtain ⟨e1, e2, e3⟩ := toneB_iff.1 hl.2
      have hz := nv_pos (tieB_head h3)
      simp only [sndL, mergeN, e1, e2, e3, hl.1, hr]
      by_cases c1 : tick < x.t
      · rw [if_pos (by omega), if_pos c1]
      · rw [if_neg c1]
        by_cases c2 : tick < x.t + z.t
        · rw [if_pos c2, if_pos (by omega)]
        · rw [if_neg c2, if_neg (by omega), show tick - (x.t + z.t) = tick - x.t - z.t by omega]
    · rw [joF_no hm]
      unfold sndL
      rw [jo_snd l z (tick - x.t) (tieB_tail h)]
theorem joL_snd {v : List Nt} (h : tieB v = true) (tick : Int) : sndL (joL v) tick = sndL v tick := by
  cases v with
  | nil => rfl
  | cons x l => exact jo_snd l x tick h
theorem na_snd : ∀ (v : List Nt) (k : Nat) (tick : Int), 0 ≤ tick → tick < sumT v → ∃ (j : Nat) (x : Nt), naL k v tick = ((k + j : Nat) : Int) ∧ v[j]? = some x ∧ sndL v tick = some (x.r, x.s, x.a, x.o)
  | [], _, tick, h0, h1 => by simp [sumT] at h1; omega
  | x :: l, k, tick, h0, h1 => by
    unfold naL sndL
    by_cases ht : tick < x.t
    · rw [if_pos ht, if_pos ht]
      exact ⟨0, x, by simp, rfl, rfl⟩
    · rw [if_neg ht, if_neg ht]
      simp only [sumT] at h1
      obtain ⟨j, z, h2, h3, h4⟩ := na_snd l (k + 1) (tick - x.t) (by omega) (by omega)
      exact ⟨j + 1, z, by rw [h2]; congr 1; omega, by simpa using h3, h4⟩
/-- at every tick the same sounds. -/
theorem jo_same {v : List Nt} (h : voB v = true) {tick : Int} (h0 : 0 ≤ tick) (h1 : tick < sumT v) :
    ∃ (j k : Nat) (x z : Nt), naZ v tick = j ∧ naZ (joL v) tick = k ∧ v[j]? = some x ∧ (joL v)[k]? = some z ∧ x.r = z.r ∧ x.s = z.s ∧ x.a = z.a ∧ x.o = z.o := by
  obtain ⟨j, x, a1, a2, a3⟩ := na_snd v 0 tick h0 h1
  obtain ⟨k, z, b1, b2, b3⟩ := na_snd (joL v) 0 tick h0 (by rw [joL_sum]; exact h1)
  rw [joL_snd (voB_iff.1 h).1, a3] at b3
  have e := Option.some.inj b3
  simp only [Prod.mk.injEq] at e
  refine ⟨j, k, x, z, ?_, ?_, a2, b2, e.1, e.2.1, e.2.2.1, e.2.2.2⟩
  · simp only [naZ, h, h0, decide_true, Bool.and_self, if_true]
    rw [a1, Nat.zero_add]
  · simp only [naZ, joL_vo h, h0, decide_true, Bool.and_self, if_true]
    rw [b1, Nat.zero_add]

/-! ### Turned voices -/

def tuF : Bool → List Nt → List Nt
  | _, [] => []
  | b, x :: l => tuF x.y l ++ [{ x with y := b }]
/-- the voice in reverse order. -/
def tuL (v : List Nt) : List Nt := tuF false v
theorem tuF_len : ∀ (v : List Nt) (b : Bool), (tuF b v).length = v.length
  | [], _ => rfl
  | x :: l, b => by simp [tuF, tuF_len l]
theorem tuF_get : ∀ (v : List Nt) (b : Bool) (i j : Nat) (x : Nt), v[i]? = some x → i + j + 1 = v.length →
    (i = 0 → (tuF b v)[j]? = some { x with y := b }) ∧ (∀ p z, i = p + 1 → v[p]? = some z → (tuF b v)[j]? = some { x with y := z.y })
  | [], _, _, _, _, h, _ => by simp at h
  | x0 :: l, b, 0, j, x, h, hl => by
    simp at h hl
    subst h hl
    refine ⟨fun _ => ?_, fun p z e _ => by omega⟩
    unfold tuF
    rw [List.getElem?_append_right (by rw [tuF_len]; omega), tuF_len]
    simp
  | x0 :: l, b, i + 1, j, x, h, hl => by
    simp only [List.getElem?_cons_succ, List.length_cons] at h hl
    obtain ⟨h1, h2⟩ := tuF_get l x0.y i j x h (by omega)
    refine ⟨fun e => by omega, fun p z e hz => ?_⟩
    obtain rfl : p = i := by omega
    unfold tuF
    rw [List.getElem?_append_left (by rw [tuF_len]; omega)]
    cases p with
    | zero => simp at hz; subst hz; exact h1 rfl
    | succ p => exact h2 p z rfl (by simpa using hz)
theorem tuF_sum : ∀ (v : List Nt) (b : Bool), sumT (tuF b v) = sumT v
  | [], _ => rfl
  | x :: l, b => by unfold tuF; rw [sumT_append, tuF_sum l]; simp only [sumT]; omega
theorem tuL_tie {v : List Nt} (h : tieB v = true) : tieB (tuL v) = true := by
  rw [tieB_ix]
  intro k u hu
  have hk : k < v.length := by have := (List.getElem?_eq_some_iff.1 hu).1; rwa [tuL, tuF_len] at this
  obtain ⟨i, hi⟩ : ∃ i, i + k + 1 = v.length := ⟨v.length - 1 - k, by omega⟩
  obtain ⟨x, hx⟩ : ∃ x, v[i]? = some x := ⟨_, List.getElem?_eq_getElem (by omega)⟩
  obtain ⟨h1, h2⟩ := tuF_get v false i k x hx hi
  have nx := tieB_at h hx
  obtain ⟨n1, n2, n3⟩ := nvB_iff.1 nx
  cases i with
  | zero =>
    have e := Option.some.inj (hu.symm.trans (h1 rfl))
    subst e
    exact ⟨nvB_iff.2 ⟨fun hr => ⟨rfl, (n1 hr).2⟩, n2, n3⟩, fun hy => by cases hy⟩
  | succ p =>
    obtain ⟨z, hz⟩ : ∃ z, v[p]? = some z := ⟨_, List.getElem?_eq_getElem (by omega)⟩
    have e := Option.some.inj (hu.symm.trans (h2 p z rfl hz))
    subst e
    obtain ⟨nz, tz⟩ := tieB_ix.1 h p z hz
    have key : z.y = true → x.r = false ∧ toneB z x = true := fun hy => by
      obtain ⟨x', hx', r1, r2⟩ := tz hy
      rw [hx] at hx'
      cases hx'
      exact ⟨r1, r2⟩
    refine ⟨nvB_iff.2 ⟨fun hr => ⟨?_, (n1 hr).2⟩, n2, n3⟩, fun hy => ?_⟩
    · show z.y = false
      cases hy : z.y with
      | false => rfl
      | true => exact absurd ((key hy).1.symm.trans hr) (by decide)
    · obtain ⟨_, r2⟩ := key hy
      obtain ⟨g1, g2⟩ := tuF_get v false p (k + 1) z hz (by omega)
      have hzr : z.r = false := tie_rest nz hy
      have tb : ∀ b : Bool, toneB { x with y := z.y } { z with y := b } = true := fun b => by
        obtain ⟨e1, e2, e3⟩ := toneB_iff.1 r2
        exact toneB_iff.2 ⟨e1.symm, e2.symm, e3.symm⟩
      cases p with
      | zero => exact ⟨_, g1 rfl, hzr, tb _⟩
      | succ q =>
        obtain ⟨y, hq⟩ : ∃ y, v[q]? = some y := ⟨_, List.getElem?_eq_getElem (by omega)⟩
        exact ⟨_, g2 q y rfl hq, hzr, tb _⟩
theorem tuL_vo {v : List Nt} (h : voB v = true) : voB (tuL v) = true := by
  obtain ⟨h1, h2⟩ := voB_iff.1 h
  exact voB_iff.2 ⟨tuL_tie h1, by rw [tuL, tuF_len]; exact h2⟩
/-- the last tie. -/
def ltF : Bool → List Nt → Bool
  | c, [] => c
  | _, x :: l => ltF x.y l
theorem ltF_snoc : ∀ (u : List Nt) (c : Bool) (z : Nt), ltF c (u ++ [z]) = z.y
  | [], _, _ => rfl
  | x :: u, _, z => ltF_snoc u x.y z
theorem tuF_snoc : ∀ (u : List Nt) (c : Bool) (z : Nt), tuF c (u ++ [z]) = { z with y := ltF c u } :: tuF c u
  | [], _, _ => rfl
  | x :: u, c, z => by
    show tuF x.y (u ++ [z]) ++ _ = _
    rw [tuF_snoc u x.y z]
    rfl
theorem tu_twice : ∀ (v : List Nt) (b : Bool), tieB v = true → tuF false (tuF b v) = v
  | [], _, _ => rfl
  | x :: l, b, h => by
    show tuF false (tuF x.y l ++ [_]) = _
    rw [tuF_snoc, tu_twice l x.y (tieB_tail h)]
    congr 1
    have : ltF false (tuF x.y l) = x.y := by
      cases l with
      | nil => exact (tieB_one.1 h).2.symm
      | cons z l => exact ltF_snoc _ _ _
    rw [this]

/-! ### Groups of ties -/

def hS : List Nt → Int
  | [] => 0
  | x :: l => x.t + (if x.y = true then hS l else 0)
def fO : Int → List Nt → Prop
  | _, [] => True
  | c, x :: l => c + x.t ≤ 768 ∧ fO (if x.y = true then c + x.t else 0) l
def eO : Int → List Nt → Int
  | c, [] => c
  | c, x :: l => eO (if x.y = true then c + x.t else 0) l
def gO : List Nt → Prop
  | [] => True
  | x :: l => hS (x :: l) ≤ 768 ∧ gO l
theorem fO_append : ∀ (u w : List Nt) (c : Int), fO c (u ++ w) ↔ fO c u ∧ fO (eO c u) w
  | [], w, c => by simp [fO, eO]
  | x :: u, w, c => by simp only [List.cons_append, fO, eO, fO_append u w, and_assoc]
theorem eO_append : ∀ (u w : List Nt) (c : Int), eO c (u ++ w) = eO (eO c u) w
  | [], _, _ => rfl
  | _ :: u, w, _ => eO_append u w _
theorem eO_tu : ∀ (v : List Nt) (b : Bool), eO 0 (tuF b v) = if b = true then hS v else 0
  | [], b => by simp [tuF, eO, hS]
  | x :: l, b => by
    unfold tuF
    rw [eO_append, eO_tu l x.y]
    simp only [eO, hS]
    cases b <;> simp <;> omega
theorem fO_tu : ∀ (v : List Nt) (b : Bool), fO 0 (tuF b v) ↔ gO v
  | [], _ => by simp [tuF, fO, gO]
  | x :: l, b => by
    unfold tuF
    rw [fO_append, fO_tu l x.y, eO_tu l x.y]
    simp only [fO, gO, hS, and_true]
    rw [show (if x.y = true then hS l else 0) + x.t = x.t + (if x.y = true then hS l else 0) by omega]
    exact And.comm
theorem gO_of : ∀ (v : List Nt) (c : Int), tieB v = true → 0 ≤ c → fO c v → gO v ∧ (v ≠ [] → c + hS v ≤ 768)
  | [], _, _, _, _ => ⟨trivial, fun h => absurd rfl h⟩
  | x :: l, c, h, h0, hf => by
    obtain ⟨f1, f2⟩ := hf
    have hx := nv_pos (tieB_head h)
    cases hy : x.y with
    | true =>
      rw [hy, if_pos rfl] at f2
      obtain ⟨g1, g2⟩ := gO_of l (c + x.t) (tieB_tail h) (by omega) f2
      have hb : c + (x.t + hS l) ≤ 768 := by
        cases l with
        | nil => simp only [hS]; omega
        | cons z l => have := g2 (by simp); omega
      refine ⟨⟨?_, g1⟩, fun _ => ?_⟩
      · simp only [hS, hy, if_true]; omega
      · simp only [hS, hy, if_true]; omega
    | false =>
      rw [hy, if_neg (by simp)] at f2
      obtain ⟨g1, _⟩ := gO_of l 0 (tieB_tail h) (by omega) f2
      refine ⟨⟨?_, g1⟩, fun _ => ?_⟩
      · simp only [hS, hy]; simp; omega
      · simp only [hS, hy]; simp; omega
/-- how many notes are not tied. -/
def cU : List Nt → Nat
  | [] => 0
  | x :: l => (if x.y = true then 0 else 1) + cU l
theorem jo_few : ∀ (l : List Nt) (x : Nt), tieB (x :: l) = true → (∀ z ∈ joF x l, z.y = false) → fO (if x.y = true then x.t else 0) l ∧ (joF x l).length = cU (x :: l)
  | [], x, _, hn => by
    have := hn x (by simp [joF])
    simp [fO, joF, cU, this]
  | z :: l, x, h, hn => by
    by_cases hm : x.y = true ∧ x.t + z.t ≤ 768
    · rw [joF_yes hm] at hn ⊢
      obtain ⟨i1, i2⟩ := jo_few l (mergeN x z) (merge_tie h hm.1 hm.2) hn
      refine ⟨?_, ?_⟩
      · rw [if_pos hm.1]
        exact ⟨hm.2, i1⟩
      · rw [i2, show cU (mergeN x z :: l) = cU (z :: l) from rfl]
        show cU (z :: l) = (if x.y = true then 0 else 1) + cU (z :: l)
        rw [if_pos hm.1]; omega
    · rw [joF_no hm] at hn ⊢
      have hx : x.y = false := hn x (by simp)
      obtain ⟨i1, i2⟩ := jo_few l z (tieB_tail h) (fun u hu => hn u (by simp [hu]))
      have hz := nv_pos (tieB_head (tieB_tail h))
      refine ⟨?_, ?_⟩
      · rw [hx, if_neg (by simp)]
        exact ⟨by omega, by rw [Int.zero_add]; exact i1⟩
      · simp only [List.length_cons, i2, cU, hx]; simp; omega
theorem jo_most : ∀ (l : List Nt) (x : Nt), tieB (x :: l) = true → fO (if x.y = true then x.t else 0) l → (joF x l).length = cU (x :: l)
  | [], x, h, _ => by simp [joF, cU, (tieB_one.1 h).2]
  | z :: l, x, h, hf => by
    cases hy : x.y with
    | true =>
      rw [hy, if_pos rfl] at hf
      have hm : x.y = true ∧ x.t + z.t ≤ 768 := ⟨hy, hf.1⟩
      rw [joF_yes hm, jo_most l (mergeN x z) (merge_tie h hm.1 hm.2) hf.2, show cU (mergeN x z :: l) = cU (z :: l) from rfl]
      show cU (z :: l) = (if x.y = true then 0 else 1) + cU (z :: l)
      rw [if_pos hy]; omega
    | false =>
      rw [hy, if_neg (by simp)] at hf
      have hm : ¬ (x.y = true ∧ x.t + z.t ≤ 768) := fun e => by rw [hy] at e; cases e.1
      have hf2 := hf.2
      rw [Int.zero_add] at hf2
      rw [joF_no hm, List.length_cons, jo_most l z (tieB_tail h) hf2]
      simp only [cU, hy]; simp; omega
theorem cU_tu : ∀ (v : List Nt) (b : Bool), tieB v = true → v ≠ [] → cU (tuF b v) + 1 = cU v + (if b = true then 0 else 1)
  | [], _, _, h => absurd rfl h
  | [x], b, h, _ => by cases b <;> simp [tuF, cU, (tieB_one.1 h).2]
  | x :: z :: l, b, h, _ => by
    have ih := cU_tu (z :: l) x.y (tieB_tail h) (by simp)
    have ha : ∀ (u w : List Nt), cU (u ++ w) = cU u + cU w := by
      intro u w
      induction u with
      | nil => simp [cU]
      | cons p u ih => simp only [List.cons_append, cU, ih]; omega
    unfold tuF
    rw [ha]
    have e1 : cU (x :: z :: l) = (if x.y = true then 0 else 1) + cU (z :: l) := rfl
    rw [e1]
    simp only [cU] at ih ⊢
    cases b <;> cases hy : x.y <;> simp [hy] at ih ⊢ <;> omega
/-- a turned voice joins alike. -/
theorem tu_jo {v : List Nt} (h : tieB v = true) (hn : ∀ z ∈ joL v, z.y = false) : (joL (tuL v)).length = (joL v).length := by
  cases v with
  | nil => rfl
  | cons x l =>
    obtain ⟨f1, f2⟩ := jo_few l x h hn
    have hx := nv_pos (tieB_head h)
    have hf : fO 0 (x :: l) := ⟨by omega, by rw [Int.zero_add]; exact f1⟩
    have hg := (gO_of (x :: l) 0 h (by omega) hf).1
    have hf2 := (fO_tu (x :: l) false).2 hg
    have ht := tuL_tie h
    have hc := cU_tu (x :: l) false h (by simp)
    have hlen := tuF_len (x :: l) false
    show (joL (tuF false (x :: l))).length = (joF x l).length
    unfold tuL at ht
    cases hu : tuF false (x :: l) with
    | nil => rw [hu] at hlen; simp at hlen
    | cons u m =>
      rw [hu] at hf2 ht hc
      have hf3 := hf2.2
      rw [Int.zero_add] at hf3
      show (joF u m).length = _
      rw [jo_most m u ht hf3, f2]
      simp at hc
      omega

/- Plain facts for chapter 5: the notes at the head of a voice that are one when its ties are joined. -/

/-- how many notes behind x are joined to it. -/
def gpN : Nt → List Nt → Nat
  | _, [] => 0
  | x, z :: l => if x.y = true ∧ x.t + z.t ≤ 768 then gpN (mergeN x z) l + 1 else 0
/-- what they are together. -/
def gpX : Nt → List Nt → Nt
  | x, [] => x
  | x, z :: l => if x.y = true ∧ x.t + z.t ≤ 768 then gpX (mergeN x z) l else x
theorem gpN_yes {x z : Nt} {l : List Nt} (h : x.y = true ∧ x.t + z.t ≤ 768) : gpN x (z :: l) = gpN (mergeN x z) l + 1 := by rw [gpN, if_pos h]
theorem gpN_no {x z : Nt} {l : List Nt} (h : ¬ (x.y = true ∧ x.t + z.t ≤ 768)) : gpN x (z :: l) = 0 := by rw [gpN, if_neg h]
theorem gpN_free {x : Nt} {l : List Nt} (h : x.y = false) : gpN x l = 0 := by
  cases l with
  | nil => rfl
  | cons z l => exact gpN_no (fun e => by rw [h] at e; cases e.1)
theorem joF_gp : ∀ (l : List Nt) (x : Nt), joF x l = gpX x l :: joL (l.drop (gpN x l))
  | [], _ => rfl
  | z :: l, x => by
    by_cases hm : x.y = true ∧ x.t + z.t ≤ 768
    · rw [joF_yes hm, gpN_yes hm, joF_gp l]
      unfold gpX
      rw [if_pos hm, List.drop_succ_cons]
      cases l <;> rfl
    · rw [joF_no hm, gpN_no hm]
      unfold gpX
      rw [if_neg hm]
      rfl
theorem gpN_len : ∀ (l : List Nt) (x : Nt), gpN x l ≤ l.length
  | [], _ => Nat.zero_le _
  | z :: l, x => by
    by_cases hm : x.y = true ∧ x.t + z.t ≤ 768
    · rw [gpN_yes hm]; have := gpN_len l (mergeN x z); simp only [List.length_cons]; omega
    · rw [gpN_no hm]; omega
theorem merge_last {x z : Nt} {l : List Nt} (h : tieB (x :: z :: l) = true) (hy : x.y = true) : mergeN x z = { z with t := x.t + z.t } := by
  obtain ⟨h1, h2, h3⟩ := tieB_cons.1 h
  have hr := tie_rest h1 hy
  have hl : z.r = false ∧ toneB x z = true := by simpa [linkB, hy] using h2
  obtain ⟨e1, e2, e3⟩ := toneB_iff.1 hl.2
  unfold mergeN
  rw [hr, e1, e2, e3, hl.1]
  try (cases x; cases z; simp_all)
theorem gp_last : ∀ (l : List Nt) (x : Nt), tieB (x :: l) = true → ∃ z, (x :: l)[gpN x l]? = some z ∧ gpX x l = { z with t := sumT ((x :: l).take (gpN x l + 1)) }
  | [], x, _ => ⟨x, rfl, by simp [gpX, gpN, sumT]⟩
  | z :: l, x, h => by
    by_cases hm : x.y = true ∧ x.t + z.t ≤ 768
    · rw [gpN_yes hm]
      have e : gpX x (z :: l) = gpX (mergeN x z) l := by rw [gpX, if_pos hm]
      rw [e]
      obtain ⟨u, h1, h2⟩ := gp_last l (mergeN x z) (merge_tie h hm.1 hm.2)
      rw [h2]
      cases hg : gpN (mergeN x z) l with
      | zero =>
        rw [hg] at h1
        simp at h1
        subst h1
        refine ⟨z, rfl, ?_⟩
        rw [merge_last h hm.1]
        simp [sumT]
      | succ g =>
        rw [hg] at h1
        refine ⟨u, by simpa using h1, ?_⟩
        congr 1
        simp only [List.take_succ_cons, sumT, mergeN]
        omega
    · rw [gpN_no hm]
      have e : gpX x (z :: l) = x := by rw [gpX, if_neg hm]
      rw [e]
      exact ⟨x, rfl, by simp [sumT]⟩
end Go.Proofs.YtcgcnkddgihkpaaDoor
