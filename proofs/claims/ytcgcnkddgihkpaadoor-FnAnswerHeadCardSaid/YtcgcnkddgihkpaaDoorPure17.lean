/- Plain facts for chapter 17: answers. -/
import Derived.Test.YtcgcnkddgihkpaaDoorPure5c
import Derived.Test.YtcgcnkddgihkpaaDoorPure1
namespace Go.Proofs.YtcgcnkddgihkpaaDoor
set_option linter.unusedSimpArgs false
set_option linter.unusedVariables false
set_option maxRecDepth 8000

/-- The note is on degree 4 of the key, without a difference. -/
def d4B (f : Int) (m : Bool) (x : Nt) : Bool := !x.r && ((keyB f && pvB x.s x.a x.o) && (decide (dgZ f m x.s = 4) && decide (x.a - altZ f x.s = 0)))
/-- The k-th note is answered by the fourth. -/
def byB (f : Int) (m : Bool) (h : Int) (k : Nat) (x : Nt) : Bool := decide ((k : Int) < h) && d4B f m x
def anS (b : Bool) : Int := if b then 3 else 4
def anH (b : Bool) : Int := if b then 5 else 7
/-- The answer to the k-th note; it is possible. -/
def anX (f : Int) (m : Bool) (h : Int) (k : Nat) (x : Nt) : Nt := shX (anS (byB f m h k x)) (anH (byB f m h k x)) x
def anO (f : Int) (m : Bool) (h : Int) (k : Nat) (x : Nt) : Bool := shO (anS (byB f m h k x)) (anH (byB f m h k x)) x
/-- The answer to a voice. -/
def anL (f : Int) (m : Bool) (h : Int) (v : List Nt) : List Nt := v.mapIdx (anX f m h)
/-- TonalAnswer finds one. -/
def taB (f : Int) (m : Bool) (v : List Nt) (h : Int) : Bool := (keyB f && voB v && decide (0 ≤ h) && decide (h ≤ (v.length : Int))) && ((v.mapIdx (anO f m h)).all id && voB (anL f m h v))
/-- What it hands back. -/
def taL (f : Int) (m : Bool) (v : List Nt) (h : Int) : List Nt := if taB f m v h then anL f m h v else []

theorem anS_t : anS true = 3 := rfl
theorem anS_f : anS false = 4 := rfl
theorem anH_t : anH true = 5 := rfl
theorem anH_f : anH false = 7 := rfl
theorem byB_iff {f : Int} {m : Bool} {h : Int} {k : Nat} {x : Nt} : byB f m h k x = true ↔ (k : Int) < h ∧ d4B f m x = true := by simp [byB]
theorem an_len (f : Int) (m : Bool) (h : Int) (v : List Nt) : (anL f m h v).length = v.length := by simp [anL]
theorem an_get (f : Int) (m : Bool) (h : Int) (v : List Nt) (j : Nat) : (anL f m h v)[j]? = v[j]?.map (anX f m h j) := by simp [anL]
theorem an_at {f : Int} {m : Bool} {h : Int} {v : List Nt} {j : Nat} {x : Nt} (hx : v[j]? = some x) : (anL f m h v)[j]? = some (anX f m h j x) := by rw [an_get, hx]; rfl
theorem an_up {f : Int} {m : Bool} {h : Int} {v : List Nt} {j : Nat} {x : Nt} (hx : v[j]? = some x) : (anL f m h v).take j ++ [anX f m h j x] = (anL f m h v).take (j + 1) := by
  rw [List.take_add_one, an_at hx]; rfl
theorem an_ok {f : Int} {m : Bool} {h : Int} {v : List Nt} : (v.mapIdx (anO f m h)).all id = true ↔ ∀ (k : Nat) (x : Nt), v[k]? = some x → anO f m h k x = true := by
  rw [List.all_eq_true]
  constructor
  · intro hA k x hx
    exact hA _ (List.mem_of_getElem? (i := k) (by rw [List.getElem?_mapIdx, hx]; rfl))
  · intro hA b hb
    obtain ⟨k, hk⟩ := List.getElem?_of_mem hb
    rw [List.getElem?_mapIdx] at hk
    cases hx : v[k]? with
    | none => rw [hx] at hk; cases hk
    | some x => rw [hx] at hk; cases hk; exact hA k x hx
theorem ta_iff {f : Int} {m : Bool} {v : List Nt} {h : Int} : taB f m v h = true ↔ keyB f = true ∧ voB v = true ∧ 0 ≤ h ∧ h ≤ (v.length : Int) ∧ (∀ (k : Nat) (x : Nt), v[k]? = some x → anO f m h k x = true) ∧ voB (anL f m h v) = true := by
  unfold taB
  simp only [Bool.and_eq_true, decide_eq_true_eq, an_ok, and_assoc]
theorem ta_bad {f : Int} {m : Bool} {v : List Nt} {h : Int} {k : Nat} {x : Nt} (hx : v[k]? = some x) (ho : anO f m h k x = false) : taB f m v h = false := by
  cases hb : taB f m v h with
  | false => rfl
  | true => have := (ta_iff.1 hb).2.2.2.2.1 k x hx; rw [ho] at this; cases this
theorem ta_all {f : Int} {m : Bool} {v : List Nt} {h : Int} {n : Nat} (hn : v.length = n) (hh : (keyB f && voB v && decide (0 ≤ h) && decide (h ≤ (n : Int))) = true) (ho : ∀ (k : Nat) (x : Nt), k < n → v[k]? = some x → anO f m h k x = true) : taB f m v h = voB (anL f m h v) := by
  subst hn
  unfold taB
  rw [hh, an_ok.2 (fun k x hx => ho k x (List.getElem?_eq_some_iff.1 hx).1 hx)]
  rfl
theorem taL_yes {f : Int} {m : Bool} {v : List Nt} {h : Int} (hb : taB f m v h = true) : taL f m v h = anL f m h v := by unfold taL; rw [if_pos hb]
theorem taL_no {f : Int} {m : Bool} {v : List Nt} {h : Int} (hb : taB f m v h = false) : taL f m v h = [] := by unfold taL; rw [hb]; rfl
theorem taL_len (f : Int) (m : Bool) (v : List Nt) (h : Int) : (taL f m v h).length ≤ v.length := by
  unfold taL
  split
  · rw [an_len]; exact Nat.le_refl _
  · simp
theorem an_congr {f : Int} {m : Bool} {v : List Nt} {h h' : Int} (he : ∀ (k : Nat) (x : Nt), v[k]? = some x → byB f m h k x = byB f m h' k x) : anL f m h v = anL f m h' v := by
  apply List.ext_getElem?
  intro k
  rw [an_get, an_get]
  cases hx : v[k]? with
  | none => rfl
  | some x => simp only [Option.map_some]; unfold anX; rw [he k x hx]
theorem anX_t {f : Int} {m : Bool} {h : Int} {k : Nat} {x : Nt} : (anX f m h k x).t = x.t := shX_t
theorem anX_r {f : Int} {m : Bool} {h : Int} {k : Nat} {x : Nt} : (anX f m h k x).r = x.r := shX_r
theorem sumT_map17 : ∀ v : List Nt, sumT v = (v.map Nt.t).sum
  | [] => rfl
  | x :: l => by simp [sumT, sumT_map17 l]
theorem an_sum (f : Int) (m : Bool) (h : Int) (v : List Nt) : sumT (anL f m h v) = sumT v := by
  rw [sumT_map17, sumT_map17]
  congr 1
  apply List.ext_getElem?
  intro k
  rw [List.getElem?_map, List.getElem?_map, an_get]
  cases v[k]? with
  | none => rfl
  | some x => simp only [Option.map_some, anX_t]
theorem an_vt {f : Int} {m : Bool} {v : List Nt} {h : Int} (hb : taB f m v h = true) : vtZ (anL f m h v) = vtZ v := by
  obtain ⟨_, h2, _, _, _, h6⟩ := ta_iff.1 hb
  unfold vtZ
  rw [h2, h6, an_sum]
theorem by_zero {f : Int} {m : Bool} {k : Nat} {x : Nt} : byB f m 0 k x = false := by
  unfold byB
  rw [decide_eq_false (by omega)]
  rfl
/-- With head 0 it is the real answer. -/
theorem an_zero (f : Int) (m : Bool) (v : List Nt) : anL f m 0 v = v.map (shX 4 7) := by
  apply List.ext_getElem?
  intro k
  rw [an_get, List.getElem?_map]
  cases v[k]? with
  | none => rfl
  | some x => simp only [Option.map_some]; unfold anX; rw [by_zero]; rfl
theorem ta_zero {f : Int} {m : Bool} {v : List Nt} (hb : taB f m v 0 = true) : shB v 4 7 = true := by
  obtain ⟨_, h2, _, _, h5, _⟩ := ta_iff.1 hb
  refine shB_iff.2 ⟨h2, by decide, fun x hx => ?_⟩
  obtain ⟨k, hk⟩ := List.getElem?_of_mem hx
  have := h5 k x hk
  unfold anO at this
  rwa [by_zero] at this
theorem ta_shL {f : Int} {m : Bool} {v : List Nt} (hb : taB f m v 0 = true) : anL f m 0 v = shL v 4 7 := by
  unfold shL
  rw [if_pos (ta_zero hb), an_zero]
/-- The degree of a moved note. -/
theorem sh_deg {f : Int} {m : Bool} {x : Nt} {st ha : Int} (hr : x.r = false) (ho : shO st ha x = true) : pvB (shX st ha x).s (shX st ha x).a (shX st ha x).o = true ∧ dgZ f m (shX st ha x).s = (dgZ f m x.s + st) % 7 := by
  rw [shX_note hr]
  refine ⟨ad_pv (shO_note hr ho), ?_⟩
  unfold dgZ adP
  simp only
  omega
theorem ta_deg {f : Int} {m : Bool} {v : List Nt} {h : Int} (hb : taB f m v h = true) {k : Nat} {x : Nt} (hx : v[k]? = some x) (hr : x.r = false) :
    pvB (anX f m h k x).s (anX f m h k x).a (anX f m h k x).o = true ∧ dgZ f m (anX f m h k x).s = (dgZ f m x.s + anS (byB f m h k x)) % 7 :=
  sh_deg hr ((ta_iff.1 hb).2.2.2.2.1 k x hx)
/-- Real answers of real answers are a ninth above. -/
theorem sh_ninth {v : List Nt} (h1 : shB v 4 7 = true) (h2 : shB (v.map (shX 4 7)) 4 7 = true) : (v.map (shX 4 7)).map (shX 4 7) = v.map (shX 8 14) := by
  obtain ⟨_, _, g1⟩ := shB_iff.1 h1
  rw [List.map_map]
  refine List.map_congr_left fun x hx => ?_
  show shX 4 7 (shX 4 7 x) = _
  have o1 := g1 x hx
  cases hr : x.r with
  | true => rw [shX_rest hr, shX_rest hr, shX_rest hr]
  | false =>
    have hr2 : (shX 4 7 x).r = false := by rw [shX_r, hr]
    have a1 := shO_note hr o1
    have k1 := (ad_of a1 rfl rfl rfl).2.2
    have e : adP (adP x.s x.o 4 % 7) (adP x.s x.o 4 / 7) 4 = adP x.s x.o 8 := by unfold adP; omega
    rw [shX_note hr2, shX_note hr, shX_note hr]
    simp only [e]
    congr 1
    unfold adA at k1 ⊢
    rw [e]
    omega
theorem sh_way {x : Nt} (hr : x.r = false) : shX 3 5 x ≠ shX 4 7 x := fun e => by
  have := congrArg Nt.s e
  rw [shX_note hr, shX_note hr] at this
  unfold adP at this
  simp only at this
  omega

/-- The answer with this head is the second voice. -/
def ahP (f : Int) (m : Bool) (v u : List Nt) (k : Nat) : Prop := taB f m v k = true ∧ anL f m k v = u
open Classical in
noncomputable def ahF (f : Int) (m : Bool) (v u : List Nt) : Nat → Nat → Int
  | 0, _ => -1
  | j + 1, k => if ahP f m v u k then (k : Int) else ahF f m v u j (k + 1)
/-- What AnswerHead answers. -/
noncomputable def ahZ (f : Int) (m : Bool) (v u : List Nt) : Int := ahF f m v u (v.length + 1) 0
theorem ah_is {f : Int} {m : Bool} {v u : List Nt} {k : Nat} (hk : k ≤ v.length) (h : ahP f m v u k) (hno : ∀ i, i < k → ¬ ahP f m v u i) : ahZ f m v u = k := by
  have : ∀ (j i : Nat), i + j = v.length + 1 → i ≤ k → ahF f m v u j i = k := by
    intro j
    induction j with
    | zero => intro i h1 h2; omega
    | succ j ih =>
      intro i h1 h2
      unfold ahF
      by_cases e : i = k
      · subst e; rw [if_pos h]
      · rw [if_neg (hno i (by omega))]
        exact ih (i + 1) (by omega) (by omega)
  exact this (v.length + 1) 0 (by omega) (by omega)
theorem ah_no {f : Int} {m : Bool} {v u : List Nt} (hno : ∀ i, i ≤ v.length → ¬ ahP f m v u i) : ahZ f m v u = -1 := by
  have : ∀ (j i : Nat), i + j = v.length + 1 → ahF f m v u j i = -1 := by
    intro j
    induction j with
    | zero => intro i _; rfl
    | succ j ih =>
      intro i h1
      unfold ahF
      rw [if_neg (hno i (by omega))]
      exact ih (i + 1) (by omega)
  exact this (v.length + 1) 0 (by omega)
theorem ah_bd (f : Int) (m : Bool) (v u : List Nt) : -1 ≤ ahZ f m v u ∧ ahZ f m v u ≤ v.length := by
  have : ∀ (j i : Nat), i + j = v.length + 1 → -1 ≤ ahF f m v u j i ∧ ahF f m v u j i ≤ v.length := by
    intro j
    induction j with
    | zero => intro i _; unfold ahF; omega
    | succ j ih =>
      intro i h1
      unfold ahF
      split
      · omega
      · exact ih (i + 1) (by omega)
  exact this (v.length + 1) 0 (by omega)
theorem ah_len {f : Int} {m : Bool} {v u : List Nt} (h : v.length ≠ u.length) : ahZ f m v u = -1 :=
  ah_no fun i _ hp => h (by rw [← hp.2, an_len])

/-- The k-th note stands in the second voice answered by the fourth. -/
def ndP (f : Int) (m : Bool) (v u : List Nt) (k : Nat) : Prop := ∃ x, v[k]? = some x ∧ d4B f m x = true ∧ shO 3 5 x = true ∧ u[k]? = some (shX 3 5 x)
open Classical in
/-- The least head that reaches all of these among the first j. -/
noncomputable def ndJ (f : Int) (m : Bool) (v u : List Nt) : Nat → Nat
  | 0 => 0
  | j + 1 => if ndP f m v u j then j + 1 else ndJ f m v u j
theorem nd_yes {f : Int} {m : Bool} {v u : List Nt} {j : Nat} (h : ndP f m v u j) : ndJ f m v u (j + 1) = j + 1 := by unfold ndJ; rw [if_pos h]
theorem nd_no {f : Int} {m : Bool} {v u : List Nt} {j : Nat} (h : ¬ ndP f m v u j) : ndJ f m v u (j + 1) = ndJ f m v u j := by rw [ndJ]; rw [if_neg h]
theorem nd_le (f : Int) (m : Bool) (v u : List Nt) (j : Nat) : ndJ f m v u j ≤ j := by
  induction j with
  | zero => exact Nat.le_refl _
  | succ j ih => unfold ndJ; split <;> omega
theorem nd_in {f : Int} {m : Bool} {v u : List Nt} {j k : Nat} (hk : k < j) (h : ndP f m v u k) : k < ndJ f m v u j := by
  induction j with
  | zero => omega
  | succ j ih =>
    unfold ndJ
    split
    · omega
    · rename_i hn
      refine ih ?_
      by_cases e : k = j
      · subst e; exact absurd h hn
      · omega
theorem nd_last (f : Int) (m : Bool) (v u : List Nt) (j : Nat) : ndJ f m v u j = 0 ∨ ∃ k, ndJ f m v u j = k + 1 ∧ ndP f m v u k := by
  induction j with
  | zero => exact .inl rfl
  | succ j ih =>
    unfold ndJ
    split
    · rename_i h; exact .inr ⟨j, rfl, h⟩
    · exact ih
theorem ah_need {f : Int} {m : Bool} {v u : List Nt} {k0 : Nat} (hk : k0 ≤ v.length) (h : ahP f m v u k0) : ndJ f m v u v.length ≤ k0 ∧ ahP f m v u (ndJ f m v u v.length) := by
  obtain ⟨h1, h2⟩ := h
  obtain ⟨g1, g2, g3, g4, g5, g6⟩ := ta_iff.1 h1
  have hU : ∀ (k : Nat) (x : Nt), v[k]? = some x → u[k]? = some (anX f m k0 k x) := fun k x hx => by rw [← h2]; exact an_at hx
  have hle : ndJ f m v u v.length ≤ k0 := by
    rcases nd_last f m v u v.length with e | ⟨k, e, x, hx, hd, _, hu⟩
    · omega
    · by_cases hlt : k < k0
      · omega
      · exfalso
        have h3 := hU k x hx
        rw [hu] at h3
        have h4 := Option.some.inj h3
        unfold anX at h4
        have h5 : byB f m k0 k x = false := by unfold byB; rw [decide_eq_false (by omega)]; rfl
        rw [h5] at h4
        have hr : x.r = false := by
          unfold d4B at hd
          simp only [Bool.and_eq_true, Bool.not_eq_true'] at hd
          exact hd.1
        exact sh_way hr h4
  have hby : ∀ (k : Nat) (x : Nt), v[k]? = some x → byB f m (ndJ f m v u v.length) k x = byB f m k0 k x := fun k x hx => by
    cases hb : byB f m k0 k x with
    | false =>
      cases hc : byB f m (ndJ f m v u v.length) k x with
      | false => rfl
      | true =>
        obtain ⟨q1, q2⟩ := byB_iff.1 hc
        have : byB f m k0 k x = true := byB_iff.2 ⟨by omega, q2⟩
        rw [hb] at this; cases this
    | true =>
      obtain ⟨q1, q2⟩ := byB_iff.1 hb
      refine byB_iff.2 ⟨?_, q2⟩
      have h3 := g5 k x hx
      have h4 := hU k x hx
      unfold anO at h3
      unfold anX at h4
      rw [hb] at h3 h4
      have := nd_in (List.getElem?_eq_some_iff.1 hx).1 ⟨x, hx, q2, h3, h4⟩
      omega
  refine ⟨hle, ta_iff.2 ⟨g1, g2, by omega, by have := nd_le f m v u v.length; omega, fun k x hx => ?_, ?_⟩, ?_⟩
  · unfold anO
    rw [hby k x hx]
    exact g5 k x hx
  · rw [an_congr hby]; exact g6
  · rw [an_congr hby]; exact h2
/-- The program tries the needed head alone. -/
theorem ah_yes {f : Int} {m : Bool} {v u : List Nt} (h : ahP f m v u (ndJ f m v u v.length)) : ahZ f m v u = (ndJ f m v u v.length : Nat) :=
  ah_is (nd_le f m v u v.length) h fun i hi hp => by
    have := (ah_need (by have := nd_le f m v u v.length; omega) hp).1
    omega
theorem ah_none {f : Int} {m : Bool} {v u : List Nt} (h : ¬ ahP f m v u (ndJ f m v u v.length)) : ahZ f m v u = -1 :=
  ah_no fun i hi hp => h (ah_need hi hp).2
end Go.Proofs.YtcgcnkddgihkpaaDoor
