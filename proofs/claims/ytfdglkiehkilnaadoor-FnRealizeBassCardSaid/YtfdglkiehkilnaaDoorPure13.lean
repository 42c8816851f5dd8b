/- Plain facts for chapter 13: figures, chords over a bass, faults of realized basses. -/
import Derived.Test.YtfdglkiehkilnaaDoorPure11
namespace Go.Proofs.YtfdglkiehkilnaaDoor
set_option linter.unusedSimpArgs false
set_option linter.unusedVariables false
set_option maxRecDepth 8000

/-- The steps of a figure above its bass. -/
def fgL (g : Int) : List Int := if g = 5 then [2, 4] else if g = 6 then [2, 5] else if g = 4 then [3, 5] else if g = 7 then [2, 4, 6] else []
theorem fg_cases (g : Int) : (g = 5 ∧ fgL g = [2, 4]) ∨ (g = 6 ∧ fgL g = [2, 5]) ∨ (g = 4 ∧ fgL g = [3, 5]) ∨ (g = 7 ∧ fgL g = [2, 4, 6]) ∨ (g ≠ 5 ∧ g ≠ 6 ∧ g ≠ 4 ∧ g ≠ 7 ∧ fgL g = []) := by
  unfold fgL
  by_cases h5 : g = 5
  · simp [h5]
  · by_cases h6 : g = 6
    · simp [h6]
    · by_cases h4 : g = 4
      · simp [h4]
      · by_cases h7 : g = 7
        · simp [h7]
        · simp [h5, h6, h4, h7]
theorem fg_bd {g k : Int} (h : k ∈ fgL g) : 2 ≤ k ∧ k ≤ 6 := by
  rcases fg_cases g with ⟨_, e⟩ | ⟨_, e⟩ | ⟨_, e⟩ | ⟨_, e⟩ | ⟨_, _, _, _, e⟩ <;> rw [e] at h <;> simp at h <;> omega
/-- The place of a pitch. -/
def plZ (x : Pt) : Int := placeZ x.s x.a x.o
theorem plZ_of {x : Pt} (h : pvP x = true) : plZ x = 7 * x.o + x.s ∧ 0 ≤ plZ x ∧ plZ x ≤ 62 := by
  have := pvP_iff.1 h
  unfold plZ placeZ
  rw [if_pos (show pvB x.s x.a x.o = true from h)]
  omega
theorem plP_pl {f p : Int} (h : pvP (plP f p) = true) : plZ (plP f p) = p := by
  obtain ⟨h1, _, _⟩ := plZ_of h
  rw [h1]
  unfold plP
  dsimp only
  omega
/-- The tone of a key some steps above a pitch. -/
def ftT (f : Int) (x : Pt) (k : Int) : Pt := plP f (plZ x + k)
/-- The tones of a figure. -/
def ftL (f : Int) (x : Pt) (g : Int) : List Pt := if keyB f = true ∧ pvP x = true ∧ fgL g ≠ [] ∧ ((fgL g).map (ftT f x)).all pvP = true then x :: (fgL g).map (ftT f x) else []
theorem ft_yes {f : Int} {x : Pt} {g : Int} (h1 : keyB f = true) (h2 : pvP x = true) (h3 : fgL g ≠ []) (h4 : ∀ k ∈ fgL g, pvP (ftT f x k) = true) : ftL f x g = x :: (fgL g).map (ftT f x) := by
  unfold ftL
  rw [if_pos ⟨h1, h2, h3, by rw [List.all_map, List.all_eq_true]; exact h4⟩]
theorem ft_no {f : Int} {x : Pt} {g : Int} (h : ¬ (keyB f = true ∧ pvP x = true ∧ fgL g ≠ [] ∧ ∀ k ∈ fgL g, pvP (ftT f x k) = true)) : ftL f x g = [] := by
  unfold ftL
  rw [if_neg]
  rintro ⟨h1, h2, h3, h4⟩
  rw [List.all_map, List.all_eq_true] at h4
  exact h ⟨h1, h2, h3, h4⟩
theorem ft_of {f : Int} {x : Pt} {g : Int} (h : ftL f x g ≠ []) : keyB f = true ∧ pvP x = true ∧ fgL g ≠ [] ∧ (∀ k ∈ fgL g, pvP (ftT f x k) = true) ∧ ftL f x g = x :: (fgL g).map (ftT f x) := by
  by_cases hc : keyB f = true ∧ pvP x = true ∧ fgL g ≠ [] ∧ ∀ k ∈ fgL g, pvP (ftT f x k) = true
  · exact ⟨hc.1, hc.2.1, hc.2.2.1, hc.2.2.2, ft_yes hc.1 hc.2.1 hc.2.2.1 hc.2.2.2⟩
  · exact absurd (ft_no hc) h
theorem ft_len (f : Int) (x : Pt) (g : Int) : (ftL f x g).length ≤ 4 := by
  by_cases h : ftL f x g = []
  · rw [h]; simp
  · rw [(ft_of h).2.2.2.2]
    rcases fg_cases g with ⟨_, e⟩ | ⟨_, e⟩ | ⟨_, e⟩ | ⟨_, e⟩ | ⟨_, _, _, _, e⟩ <;> rw [e] <;> simp
theorem ft_all {f : Int} {x : Pt} {g : Int} : ∀ y ∈ ftL f x g, pvP y = true := by
  intro y hy
  by_cases h : ftL f x g = []
  · rw [h] at hy; cases hy
  · obtain ⟨_, h2, _, h4, e⟩ := ft_of h
    rw [e] at hy
    rcases List.mem_cons.1 hy with rfl | hy
    · exact h2
    · obtain ⟨k, hk, rfl⟩ := List.mem_map.1 hy
      exact h4 k hk
/-- How many tones a figure has, and that they go up. -/
theorem ft_n {f : Int} {x : Pt} {g : Int} (h : ftL f x g ≠ []) : (ftL f x g)[0]? = some x ∧ ((g = 7 ∧ (ftL f x g).length = 4) ∨ (g ≠ 7 ∧ (ftL f x g).length = 3)) := by
  obtain ⟨_, _, h3, _, e⟩ := ft_of h
  rw [e]
  refine ⟨rfl, ?_⟩
  rcases fg_cases g with ⟨rfl, e⟩ | ⟨rfl, e⟩ | ⟨rfl, e⟩ | ⟨rfl, e⟩ | ⟨_, _, _, _, e⟩
  · rw [e]; simp
  · rw [e]; simp
  · rw [e]; simp
  · rw [e]; simp
  · exact absurd e h3
theorem ft_up {f : Int} {x : Pt} {g : Int} {i : Nat} {y z : Pt} (hy : (ftL f x g)[i]? = some y) (hz : (ftL f x g)[i + 1]? = some z) : plZ y < plZ z ∧ z.a = altZ f z.s ∧ 0 ≤ z.s ∧ z.s ≤ 6 := by
  have h : ftL f x g ≠ [] := fun h => by rw [h] at hy; simp at hy
  obtain ⟨_, h2, h3, h4, e⟩ := ft_of h
  rw [e] at hy hz
  rw [List.getElem?_cons_succ, List.getElem?_map] at hz
  obtain ⟨k, hk, rfl⟩ := Option.map_eq_some_iff.1 hz
  have hpk := h4 k (List.mem_of_getElem? hk)
  have e1 : plZ (ftT f x k) = plZ x + k := plP_pl hpk
  refine ⟨?_, rfl, ?_⟩
  · rw [e1]
    cases i with
    | zero =>
      simp at hy
      subst hy
      have := fg_bd (List.mem_of_getElem? hk)
      omega
    | succ i =>
      rw [List.getElem?_cons_succ, List.getElem?_map] at hy
      obtain ⟨k', hk', rfl⟩ := Option.map_eq_some_iff.1 hy
      have e2 : plZ (ftT f x k') = plZ x + k' := plP_pl (h4 k' (List.mem_of_getElem? hk'))
      rw [e2]
      rcases fg_cases g with ⟨_, e⟩ | ⟨_, e⟩ | ⟨_, e⟩ | ⟨_, e⟩ | ⟨_, _, _, _, e⟩
      · rw [e] at hk hk'; rcases (show i = 0 ∨ 0 < i by omega) with rfl | hi
        · simp at hk hk'; omega
        · rw [List.getElem?_eq_none (by simp; omega)] at hk; cases hk
      · rw [e] at hk hk'; rcases (show i = 0 ∨ 0 < i by omega) with rfl | hi
        · simp at hk hk'; omega
        · rw [List.getElem?_eq_none (by simp; omega)] at hk; cases hk
      · rw [e] at hk hk'; rcases (show i = 0 ∨ 0 < i by omega) with rfl | hi
        · simp at hk hk'; omega
        · rw [List.getElem?_eq_none (by simp; omega)] at hk; cases hk
      · rw [e] at hk hk'; rcases (show i = 0 ∨ i = 1 ∨ 1 < i by omega) with rfl | rfl | hi
        · simp at hk hk'; omega
        · simp at hk hk'; omega
        · rw [List.getElem?_eq_none (by simp; omega)] at hk; cases hk
      · rw [e] at hk; simp at hk
  · unfold ftT plP
    dsimp only
    omega

/- Faults of realized basses. -/
/-- Some fault of parts has the number k. -/
theorem pa_any {ll : List (List Pt)} {k : Nat} (h8 : ll.length ≤ 8) (hk : k < ll.length) : (∃ p ∈ paZ ll, p.1 = (k : Int)) ↔ faL ll k ≠ [] := by
  unfold paZ
  rw [if_pos h8]
  unfold paF
  constructor
  · rintro ⟨p, hp, e⟩
    obtain ⟨j, hj, hm⟩ := List.mem_flatMap.1 hp
    have := (faL_of hm).1
    obtain rfl : j = k := by omega
    intro hc
    rw [hc] at hm
    cases hm
  · intro h
    obtain ⟨p, hp⟩ := List.exists_mem_of_ne_nil _ h
    exact ⟨p, List.mem_flatMap.2 ⟨k, List.mem_range.2 hk, hp⟩, (faL_of hp).1⟩
/-- Chord k is not right. -/
def rfP (f : Int) (bs : List Pt) (gs : List Int) (ll : List (List Pt)) (k : Nat) : Prop :=
  ftL f (bs.getD k ⟨0, 0, 0⟩) (gs.getD k 0) = [] ∨ (ll.getD k []).length ≠ 4 ∨ (ll.getD k [])[0]? ≠ some (bs.getD k ⟨0, 0, 0⟩) ∨ (ftL f (bs.getD k ⟨0, 0, 0⟩) (gs.getD k 0)).all (hasB (ll.getD k [])) = false ∨ (ll.getD k []).all (hasB (ftL f (bs.getD k ⟨0, 0, 0⟩) (gs.getD k 0))) = false ∨ faL ll k ≠ []
def rfC (f : Int) (bs : List Pt) (gs : List Int) (ll : List (List Pt)) : Prop := ll.length ≤ 8 ∧ bs.length = ll.length ∧ gs.length = ll.length ∧ keyB f = true
open Classical in
/-- What RealizeFault answers. -/
noncomputable def rfZ (f : Int) (bs : List Pt) (gs : List Int) (ll : List (List Pt)) : Int :=
  if h : rfC f bs gs ll ∧ ∃ k, k < ll.length ∧ rfP f bs gs ll k ∧ ∀ j, j < k → ¬ rfP f bs gs ll j then (h.2.choose : Int) else -1
theorem rf_hit {f : Int} {bs : List Pt} {gs : List Int} {ll : List (List Pt)} {k : Nat} (hc : rfC f bs gs ll) (hk : k < ll.length) (h : rfP f bs gs ll k) (hn : ∀ j, j < k → ¬ rfP f bs gs ll j) : rfZ f bs gs ll = k := by
  have hh : rfC f bs gs ll ∧ ∃ k, k < ll.length ∧ rfP f bs gs ll k ∧ ∀ j, j < k → ¬ rfP f bs gs ll j := ⟨hc, k, hk, h, hn⟩
  unfold rfZ
  rw [dif_pos hh]
  obtain ⟨_, h2, h3⟩ := hh.2.choose_spec
  rcases (show hh.2.choose < k ∨ hh.2.choose = k ∨ k < hh.2.choose by omega) with g | g | g
  · exact absurd h2 (hn _ g)
  · rw [g]
  · exact absurd h (h3 _ g)
theorem rf_none {f : Int} {bs : List Pt} {gs : List Int} {ll : List (List Pt)} (hn : ∀ j, j < ll.length → ¬ rfP f bs gs ll j) : rfZ f bs gs ll = -1 := by
  unfold rfZ
  rw [dif_neg]
  rintro ⟨_, k, hk, h, _⟩
  exact hn k hk h
theorem rf_out {f : Int} {bs : List Pt} {gs : List Int} {ll : List (List Pt)} (hc : ¬ rfC f bs gs ll) : rfZ f bs gs ll = -1 := by
  unfold rfZ
  rw [dif_neg]
  exact fun h => hc h.1
theorem rf_of (f : Int) (bs : List Pt) (gs : List Int) (ll : List (List Pt)) : rfZ f bs gs ll = -1 ∨ ∃ k : Nat, rfZ f bs gs ll = k ∧ rfC f bs gs ll ∧ k < ll.length ∧ rfP f bs gs ll k ∧ ∀ j, j < k → ¬ rfP f bs gs ll j := by
  by_cases hh : rfC f bs gs ll ∧ ∃ k, k < ll.length ∧ rfP f bs gs ll k ∧ ∀ j, j < k → ¬ rfP f bs gs ll j
  · obtain ⟨hc, k, hk, h, hn⟩ := hh
    exact Or.inr ⟨k, rf_hit hc hk h hn, hc, hk, h, hn⟩
  · left; unfold rfZ; rw [dif_neg hh]
/-- A chord of the part before another one is right there if it is. -/
theorem rfP_take {f : Int} {bs : List Pt} {gs : List Int} {ll : List (List Pt)} {m k : Nat} (hk : k < m) : rfP f (bs.take m) (gs.take m) (ll.take m) k ↔ rfP f bs gs ll k := by
  have e : ∀ {α : Type} (l : List α) (d : α) (j : Nat), j < m → (l.take m).getD j d = l.getD j d := fun l d j hj => by
    rw [List.getD_eq_getElem?_getD, List.getD_eq_getElem?_getD, List.getElem?_take_of_lt hj]
  have e2 : faL (ll.take m) k = faL ll k := by
    unfold faL
    rw [e ll [] k hk]
    by_cases h0 : k = 0
    · rw [if_pos h0, if_pos h0]
    · rw [if_neg h0, if_neg h0, e ll [] (k - 1) (by omega)]
  unfold rfP
  rw [e bs _ k hk, e gs _ k hk, e ll _ k hk, e2]
theorem rfC_take {f : Int} {bs : List Pt} {gs : List Int} {ll : List (List Pt)} (m : Nat) (h : rfC f bs gs ll) : rfC f (bs.take m) (gs.take m) (ll.take m) := by
  obtain ⟨h1, h2, h3, h4⟩ := h
  exact ⟨by rw [List.length_take]; omega, by rw [List.length_take, List.length_take, h2], by rw [List.length_take, List.length_take, h3], h4⟩
/-- Before the chord nothing is wrong; with it something is. -/
theorem rf_part {f : Int} {bs : List Pt} {gs : List Int} {ll : List (List Pt)} {k : Nat} (h : rfZ f bs gs ll = k) : k < ll.length ∧ bs.length = ll.length ∧ gs.length = ll.length ∧ rfZ f (bs.take k) (gs.take k) (ll.take k) = -1 ∧ rfZ f (bs.take (k + 1)) (gs.take (k + 1)) (ll.take (k + 1)) = k := by
  rcases rf_of f bs gs ll with e | ⟨k', e, hc, hk, hp, hn⟩
  · omega
  · obtain rfl : k' = k := by omega
    refine ⟨hk, hc.2.1, hc.2.2.1, rf_none fun j hj => ?_, rf_hit (rfC_take _ hc) (by rw [List.length_take]; omega) ((rfP_take (by omega)).2 hp) fun j hj => ?_⟩
    · rw [List.length_take] at hj
      rw [rfP_take (by omega)]
      exact hn j (by omega)
    · rw [rfP_take (by omega)]
      exact hn j hj

/- Chords over a bass. -/
/-- The pitches that can stand above a bass: by their keys, and where two have the same one by the figure's tones. -/
def cdO (a : Int) (t : Pt) : List Pt := (List.range 9).flatMap fun (o : Nat) => if kyP ⟨t.s, t.a, (o : Int)⟩ = a then [⟨t.s, t.a, (o : Int)⟩] else []
def cdT (a : Int) (ts : List Pt) : List Pt := ts.flatMap (cdO a)
def cdL (ts : List Pt) : List Pt := (List.range 32).flatMap fun (k : Nat) => cdT (36 + (k : Int)) ts
/-- A chord is right for its figure. -/
noncomputable def okS (ts s : List Pt) : Bool := decide (stZ s = 0) && ts.all (hasB s)
noncomputable def skK (x : Pt) (ts c : List Pt) (i j : Nat) (ks : List Nat) : List (List Pt) :=
  ks.flatMap fun k => if okS ts [x, c.getD i x, c.getD j x, c.getD k x] = true then [[x, c.getD i x, c.getD j x, c.getD k x]] else []
noncomputable def skJ (x : Pt) (ts c : List Pt) (i : Nat) (js : List Nat) : List (List Pt) := js.flatMap fun j => skK x ts c i j (List.range' j (c.length - j))
noncomputable def skI (x : Pt) (ts c : List Pt) (is : List Nat) : List (List Pt) := is.flatMap fun i => skJ x ts c i (List.range' i (c.length - i))
/-- All chords over a bass. -/
noncomputable def skL (f : Int) (x : Pt) (g : Int) : List (List Pt) := skI x (ftL f x g) (cdL (ftL f x g)) (List.range' 0 (cdL (ftL f x g)).length)
theorem range_snoc (i m : Nat) : List.range' i (m + 1) = List.range' i m ++ [i + m] := by
  have := List.range'_concat (s := i) (n := m) (step := 1)
  simpa using this
theorem skI_up (x : Pt) (ts c : List Pt) (m : Nat) : skI x ts c (List.range' 0 (m + 1)) = skI x ts c (List.range' 0 m) ++ skJ x ts c m (List.range' m (c.length - m)) := by
  rw [range_snoc]; unfold skI; rw [List.flatMap_append]; simp
theorem skJ_up (x : Pt) (ts c : List Pt) (i m : Nat) : skJ x ts c i (List.range' i (m + 1)) = skJ x ts c i (List.range' i m) ++ skK x ts c i (i + m) (List.range' (i + m) (c.length - (i + m))) := by
  rw [range_snoc]; unfold skJ; rw [List.flatMap_append]; simp
theorem skK_up (x : Pt) (ts c : List Pt) (i j m : Nat) : skK x ts c i j (List.range' j (m + 1)) = skK x ts c i j (List.range' j m) ++ (if okS ts [x, c.getD i x, c.getD j x, c.getD (j + m) x] = true then [[x, c.getD i x, c.getD j x, c.getD (j + m) x]] else []) := by
  rw [range_snoc]; unfold skK; rw [List.flatMap_append]; simp
theorem sk_mem {f : Int} {x : Pt} {g : Int} {s : List Pt} (h : s ∈ skL f x g) : ∃ i j k, i ≤ j ∧ j ≤ k ∧ k < (cdL (ftL f x g)).length ∧ s = [x, (cdL (ftL f x g)).getD i x, (cdL (ftL f x g)).getD j x, (cdL (ftL f x g)).getD k x] ∧ stZ s = 0 ∧ (ftL f x g).all (hasB s) = true := by
  unfold skL skI at h
  obtain ⟨i, hi, h⟩ := List.mem_flatMap.1 h
  unfold skJ at h
  obtain ⟨j, hj, h⟩ := List.mem_flatMap.1 h
  unfold skK at h
  obtain ⟨k, hk, h⟩ := List.mem_flatMap.1 h
  split at h
  · rename_i ho
    obtain rfl := List.mem_singleton.1 h
    rw [List.mem_range'_1] at hi hj hk
    unfold okS at ho
    rw [Bool.and_eq_true, decide_eq_true_iff] at ho
    exact ⟨i, j, k, hj.1, hk.1, by omega, rfl, ho.1, ho.2⟩
  · cases h
theorem cd_mem {ts : List Pt} {y : Pt} (h : y ∈ cdL ts) : 36 ≤ kyP y ∧ kyP y ≤ 67 ∧ ∃ t ∈ ts, y.s = t.s ∧ y.a = t.a ∧ 0 ≤ y.o ∧ y.o ≤ 8 := by
  unfold cdL at h
  obtain ⟨k, hk, h⟩ := List.mem_flatMap.1 h
  unfold cdT at h
  obtain ⟨t, ht, h⟩ := List.mem_flatMap.1 h
  unfold cdO at h
  obtain ⟨o, ho, h⟩ := List.mem_flatMap.1 h
  have := List.mem_range.1 hk
  have := List.mem_range.1 ho
  split at h
  · rename_i e
    obtain rfl := List.mem_singleton.1 h
    exact ⟨by omega, by omega, t, ht, rfl, rfl, by dsimp only; omega, by dsimp only; omega⟩
  · cases h
/-- What a chord over a bass is. -/
theorem sk_is {f : Int} {x : Pt} {g : Int} {s : List Pt} (h : s ∈ skL f x g) : ftL f x g ≠ [] ∧ s.length = 4 ∧ s[0]? = some x ∧ stZ s = 0 ∧ (ftL f x g).all (hasB s) = true ∧ s.all (hasB (ftL f x g)) = true := by
  obtain ⟨i, j, k, hij, hjk, hk, hs, h1, h2⟩ := sk_mem h
  have hne : ftL f x g ≠ [] := fun hc => by
    rw [hc] at hk
    obtain ⟨_, _, t, ht, _⟩ := cd_mem (List.getElem_mem hk)
    cases ht
  have hat : ∀ m, m < (cdL (ftL f x g)).length → hasB (ftL f x g) ((cdL (ftL f x g)).getD m x) = true := fun m hm => by
    rw [List.getD_eq_getElem?_getD, List.getElem?_eq_getElem hm]
    obtain ⟨_, _, t, ht, e1, e2, _⟩ := cd_mem (List.getElem_mem hm)
    exact hasB_iff.2 ⟨t, ht, e1.symm, e2.symm⟩
  have hx : hasB (ftL f x g) x = true := hasB_iff.2 ⟨x, List.mem_of_getElem? (ft_n hne).1, rfl, rfl⟩
  refine ⟨hne, by rw [hs]; rfl, by rw [hs]; rfl, h1, h2, ?_⟩
  rw [List.all_eq_true]
  intro y hy
  rw [hs] at hy
  simp only [List.mem_cons, List.not_mem_nil, or_false] at hy
  rcases hy with rfl | rfl | rfl | rfl
  · exact hx
  · exact hat _ (by omega)
  · exact hat _ (by omega)
  · exact hat _ hk

/- Realized basses. -/
/-- A chord may follow. -/
noncomputable def wyB (p : Option (List Pt)) (s : List Pt) : Bool := match p with
  | none => true
  | some q => decide (mvZ q s = 0)
/-- The first way through some lists of chords. -/
noncomputable def rzF : Option (List Pt) → List (List (List Pt)) → Option (List (List Pt))
  | _, [] => some []
  | p, S :: r => S.findSome? fun s => if wyB p s = true then (rzF (some s) r).map (s :: ·) else none
/-- From a chord on there is a way. -/
noncomputable def gdB (r : List (List (List Pt))) (s : List Pt) : Bool := (rzF (some s) r).isSome
theorem gd_nil (s : List Pt) : gdB [] s = true := rfl
theorem rz_some (p : Option (List Pt)) (r : List (List (List Pt))) : ∀ S : List (List Pt), (S.findSome? fun s => if wyB p s = true then (rzF (some s) r).map (s :: ·) else none) = (S.find? fun s => wyB p s && gdB r s).bind fun s => (rzF (some s) r).map (s :: ·)
  | [] => rfl
  | s :: S => by
    have ih := rz_some p r S
    rw [List.findSome?_cons, List.find?_cons]
    unfold gdB at ih ⊢
    cases hw : wyB p s
    · simp only [Bool.false_eq_true, if_false, Bool.false_and]
      exact ih
    · simp only [if_true, Bool.true_and]
      cases hr : rzF (some s) r
      · simp only [Option.map_none, Option.isSome_none]
        exact ih
      · simp [hr]
theorem rz_cons (p : Option (List Pt)) (S : List (List Pt)) (r : List (List (List Pt))) : rzF p (S :: r) = (S.find? fun s => wyB p s && gdB r s).bind fun s => (rzF (some s) r).map (s :: ·) := by
  rw [rzF]; exact rz_some p r S
theorem gd_cons (S : List (List Pt)) (r : List (List (List Pt))) (s : List Pt) : gdB (S :: r) s = S.any fun s' => wyB (some s) s' && gdB r s' := by
  show (rzF (some s) (S :: r)).isSome = _
  rw [rz_cons]
  cases h : S.find? fun s' => wyB (some s) s' && gdB r s' with
  | none =>
    rw [List.find?_eq_none] at h
    symm
    rw [Option.bind_none, Option.isSome_none, ← Bool.not_eq_true, List.any_eq_true]
    rintro ⟨x, hx, hc⟩
    exact h x hx hc
  | some x =>
    have h1 := List.find?_some h
    have h2 := List.mem_of_find?_eq_some h
    symm
    rw [Option.bind_some, List.any_eq_true.2 ⟨x, h2, h1⟩]
    rw [Bool.and_eq_true] at h1
    have := h1.2
    unfold gdB at this
    rw [Option.isSome_map, this]
theorem rz_all : ∀ {SS : List (List (List Pt))} {p : Option (List Pt)} {out : List (List Pt)}, rzF p SS = some out → out.length = SS.length ∧ (∀ (k : Nat) (s : List Pt), out[k]? = some s → ∃ S, SS[k]? = some S ∧ s ∈ S) ∧ (∀ s, out[0]? = some s → wyB p s = true) ∧ ∀ (k : Nat) (u v : List Pt), out[k]? = some u → out[k + 1]? = some v → mvZ u v = 0
  | [], p, out, h => by
    rw [rzF] at h
    cases h
    exact ⟨rfl, fun k s h => by simp at h, fun s h => by simp at h, fun k u v h => by simp at h⟩
  | S :: r, p, out, h => by
    rw [rz_cons] at h
    obtain ⟨s, hs, h⟩ := Option.bind_eq_some_iff.1 h
    obtain ⟨o, ho, rfl⟩ := Option.map_eq_some_iff.1 h
    obtain ⟨h1, h2, h3, h4⟩ := rz_all ho
    have hw := List.find?_some hs
    have hm := List.mem_of_find?_eq_some hs
    rw [Bool.and_eq_true] at hw
    refine ⟨by simp [h1], fun k x hx => ?_, fun x hx => ?_, fun k u v hu hv => ?_⟩
    · cases k with
      | zero => simp at hx; subst hx; exact ⟨S, rfl, hm⟩
      | succ k => simp at hx; obtain ⟨S', e, hS⟩ := h2 k x hx; exact ⟨S', by simpa using e, hS⟩
    · simp at hx; subst hx; exact hw.1
    · cases k with
      | zero =>
        simp at hu hv
        subst hu
        have := h3 v hv
        unfold wyB at this
        simpa using this
      | succ k => simp at hu hv; exact h4 k u v hu hv
def rzC (f : Int) (bs : List Pt) (gs : List Int) : Prop := 1 ≤ bs.length ∧ bs.length ≤ 8 ∧ gs.length = bs.length ∧ keyB f = true
noncomputable def skS (f : Int) (bs : List Pt) (gs : List Int) : List (List (List Pt)) := List.zipWith (skL f) bs gs
open Classical in
/-- What RealizeBass answers. -/
noncomputable def rzZ (f : Int) (bs : List Pt) (gs : List Int) : Option (List (List Pt)) := if rzC f bs gs then rzF none (skS f bs gs) else none
theorem rz_out {f : Int} {bs : List Pt} {gs : List Int} (h : ¬ rzC f bs gs) : rzZ f bs gs = none := by unfold rzZ; rw [if_neg h]
theorem rz_in {f : Int} {bs : List Pt} {gs : List Int} (h : rzC f bs gs) : rzZ f bs gs = rzF none (skS f bs gs) := by unfold rzZ; rw [if_pos h]
/-- What is realized is right. -/
theorem rz_right {f : Int} {bs : List Pt} {gs : List Int} {out : List (List Pt)} (h : rzZ f bs gs = some out) : rzC f bs gs ∧ out.length = bs.length ∧ paZ out = [] ∧ rfZ f bs gs out = -1 ∧ ∀ (k : Nat) (s : List Pt), out[k]? = some s → ∃ x g, bs[k]? = some x ∧ gs[k]? = some g ∧ s ∈ skL f x g := by
  by_cases hc : rzC f bs gs
  · rw [rz_in hc] at h
    obtain ⟨h1, h2, _, h4⟩ := rz_all h
    obtain ⟨c1, c2, c3, c4⟩ := hc
    have hl : out.length = bs.length := by
      rw [h1]; unfold skS; rw [List.length_zipWith, c3, Nat.min_self]
    have hk : ∀ (k : Nat) (s : List Pt), out[k]? = some s → ∃ x g, bs[k]? = some x ∧ gs[k]? = some g ∧ s ∈ skL f x g := fun k s hs => by
      obtain ⟨S, hS, hm⟩ := h2 k s hs
      unfold skS at hS
      rw [List.getElem?_zipWith] at hS
      obtain ⟨x, hx⟩ : ∃ x, bs[k]? = some x := ⟨_, List.getElem?_eq_getElem (by have := (List.getElem?_eq_some_iff.1 hs).1; omega)⟩
      obtain ⟨g, hg⟩ : ∃ x, gs[k]? = some x := ⟨_, List.getElem?_eq_getElem (by have := (List.getElem?_eq_some_iff.1 hs).1; omega)⟩
      rw [hx, hg] at hS
      cases hS
      exact ⟨x, g, hx, hg, hm⟩
    have hf : ∀ k, k < out.length → faL out k = [] := fun k hlt => by
      obtain ⟨s, hs⟩ : ∃ s, out[k]? = some s := ⟨_, List.getElem?_eq_getElem hlt⟩
      obtain ⟨x, g, _, _, hm⟩ := hk k s hs
      have e1 : out.getD k [] = s := by rw [List.getD_eq_getElem?_getD, hs]; rfl
      unfold faL
      rw [e1, if_pos (sk_is hm).2.2.2.1]
      cases k with
      | zero => rfl
      | succ k =>
        obtain ⟨u, hu⟩ : ∃ s, out[k]? = some s := ⟨_, List.getElem?_eq_getElem (by omega)⟩
        have e2 : out.getD (k + 1 - 1) [] = u := by rw [Nat.add_sub_cancel, List.getD_eq_getElem?_getD, hu]; rfl
        rw [e2, if_neg (by omega), if_pos (h4 k u s hu hs)]
        rfl
    refine ⟨⟨c1, c2, c3, c4⟩, hl, ?_, rf_none fun j hj => ?_, hk⟩
    · unfold paZ
      rw [if_pos (by omega)]
      unfold paF
      rw [List.flatMap_eq_nil_iff]
      exact fun k hk => hf k (List.mem_range.1 hk)
    · obtain ⟨s, hs⟩ : ∃ s, out[j]? = some s := ⟨_, List.getElem?_eq_getElem hj⟩
      obtain ⟨x, g, hx, hg, hm⟩ := hk j s hs
      obtain ⟨s1, s2, s3, s4, s5, s6⟩ := sk_is hm
      have e0 : out.getD j [] = s := by rw [List.getD_eq_getElem?_getD, hs]; rfl
      have e1 : bs.getD j ⟨0, 0, 0⟩ = x := by rw [List.getD_eq_getElem?_getD, hx]; rfl
      have e2 : gs.getD j 0 = g := by rw [List.getD_eq_getElem?_getD, hg]; rfl
      unfold rfP
      rw [e0, e1, e2, s5, s6, hf j hj]
      rintro (h | h | h | h | h | h)
      · exact s1 h
      · exact h s2
      · exact h s3
      · cases h
      · cases h
      · exact h rfl
  · rw [rz_out hc] at h
    cases h

/- Plain facts for chapter 13: the first chord over a bass of the key has the least keys. -/

theorem head_flat {β : Type} {F : Nat → List β} {a b : β} : ∀ {l : List Nat}, l.Pairwise (· < ·) → (l.flatMap F).head? = some a → b ∈ l.flatMap F → ∃ u v, u ∈ l ∧ v ∈ l ∧ (F u).head? = some a ∧ b ∈ F v ∧ u ≤ v
  | [], _, h, _ => by simp at h
  | m :: r, hp, ha, hb => by
    rw [List.pairwise_cons] at hp
    rw [List.flatMap_cons] at ha hb
    cases hm : F m with
    | nil =>
      rw [hm, List.nil_append] at ha hb
      obtain ⟨u, v, hu, hv, h1, h2, h3⟩ := head_flat hp.2 ha hb
      exact ⟨u, v, List.mem_cons_of_mem _ hu, List.mem_cons_of_mem _ hv, h1, h2, h3⟩
    | cons z t =>
      have h1 : (F m).head? = some a := by rw [hm]; rw [hm] at ha; simpa using ha
      rcases List.mem_append.1 hb with hb | hb
      · exact ⟨m, m, List.mem_cons_self, List.mem_cons_self, h1, hb, Nat.le_refl _⟩
      · obtain ⟨v, hv, h2⟩ := List.mem_flatMap.1 hb
        exact ⟨m, v, List.mem_cons_self, List.mem_cons_of_mem _ hv, h1, h2, Nat.le_of_lt (hp.1 v hv)⟩
/-- Numbers in the order of the loops. -/
def lxN (i j k i' j' k' : Nat) : Prop := i < i' ∨ i = i' ∧ (j < j' ∨ j = j' ∧ k ≤ k')
theorem range_lt (s n : Nat) : (List.range' s n).Pairwise (· < ·) := List.pairwise_lt_range'
theorem skK_at {x : Pt} {ts c : List Pt} {i j : Nat} {k : Nat} {s : List Pt} (h : s ∈ (if okS ts [x, c.getD i x, c.getD j x, c.getD k x] = true then [[x, c.getD i x, c.getD j x, c.getD k x]] else [])) : s = [x, c.getD i x, c.getD j x, c.getD k x] := by
  split at h
  · exact List.mem_singleton.1 h
  · cases h
theorem sk_first {f : Int} {x : Pt} {g : Int} {s0 s : List Pt} (h0 : (skL f x g).head? = some s0) (h : s ∈ skL f x g) : ∃ i j k i' j' k', lxN i j k i' j' k' ∧ i ≤ j ∧ j ≤ k ∧ k < (cdL (ftL f x g)).length ∧ i' ≤ j' ∧ j' ≤ k' ∧ k' < (cdL (ftL f x g)).length ∧
    s0 = [x, (cdL (ftL f x g)).getD i x, (cdL (ftL f x g)).getD j x, (cdL (ftL f x g)).getD k x] ∧ s = [x, (cdL (ftL f x g)).getD i' x, (cdL (ftL f x g)).getD j' x, (cdL (ftL f x g)).getD k' x] := by
  unfold skL skI at h0 h
  obtain ⟨i, i', hi, hi', a0, a, hii⟩ := head_flat (range_lt _ _) h0 h
  unfold skJ at a0 a
  have hmem : ∀ {u : Nat} {z : List Pt}, z ∈ ((List.range' u ((cdL (ftL f x g)).length - u)).flatMap fun j => skK x (ftL f x g) (cdL (ftL f x g)) u j (List.range' j ((cdL (ftL f x g)).length - j))) → ∃ j k, u ≤ j ∧ j ≤ k ∧ k < (cdL (ftL f x g)).length ∧ z = [x, (cdL (ftL f x g)).getD u x, (cdL (ftL f x g)).getD j x, (cdL (ftL f x g)).getD k x] := fun hz => by
    obtain ⟨j, hj, hz⟩ := List.mem_flatMap.1 hz
    unfold skK at hz
    obtain ⟨k, hk, hz⟩ := List.mem_flatMap.1 hz
    rw [List.mem_range'_1] at hj hk
    exact ⟨j, k, hj.1, hk.1, by omega, skK_at hz⟩
  rcases Nat.lt_or_eq_of_le hii with hlt | rfl
  · obtain ⟨j, k, b1, b2, b3, b4⟩ := hmem (List.mem_of_mem_head? a0)
    obtain ⟨j', k', c1, c2, c3, c4⟩ := hmem a
    exact ⟨i, j, k, i', j', k', Or.inl hlt, b1, b2, b3, c1, c2, c3, b4, c4⟩
  · obtain ⟨j, j', hj, hj', d0, d, hjj⟩ := head_flat (range_lt _ _) a0 a
    rw [List.mem_range'_1] at hj hj'
    unfold skK at d0 d
    rcases Nat.lt_or_eq_of_le hjj with hlt | rfl
    · obtain ⟨k, hk, e0⟩ := List.mem_flatMap.1 (List.mem_of_mem_head? d0)
      obtain ⟨k', hk', e⟩ := List.mem_flatMap.1 d
      rw [List.mem_range'_1] at hk hk'
      exact ⟨i, j, k, i, j', k', Or.inr ⟨rfl, Or.inl hlt⟩, hj.1, hk.1, by omega, hj'.1, hk'.1, by omega, skK_at e0, skK_at e⟩
    · obtain ⟨k, k', hk, hk', e0, e, hkk⟩ := head_flat (range_lt _ _) d0 d
      rw [List.mem_range'_1] at hk hk'
      exact ⟨i, j, k, i, j, k', Or.inr ⟨rfl, Or.inr ⟨rfl, hkk⟩⟩, hj.1, hk.1, by omega, hj.1, hk'.1, by omega, skK_at (List.mem_of_mem_head? e0), skK_at e⟩

/- The pitches of a key go up. -/
def hkZ (f s : Int) : Int := halZ s + altZ f s
theorem hk_up {f s s' : Int} (h0 : 0 ≤ s) (h : s < s') (h6 : s' ≤ 6) : hkZ f s < hkZ f s' := by
  unfold hkZ altZ
  rcases step7 h0 (by omega) with rfl | rfl | rfl | rfl | rfl | rfl | rfl <;> rcases step7 (show 0 ≤ s' by omega) h6 with rfl | rfl | rfl | rfl | rfl | rfl | rfl <;> first | omega | (simp [halZ, ordZ]; (repeat' split) <;> omega)
theorem hk_wrap {f s s' : Int} (h0 : 0 ≤ s) (h6 : s ≤ 6) (g0 : 0 ≤ s') (g6 : s' ≤ 6) : hkZ f s < 12 + hkZ f s' := by
  unfold hkZ altZ
  rcases step7 h0 h6 with rfl | rfl | rfl | rfl | rfl | rfl | rfl <;> rcases step7 g0 g6 with rfl | rfl | rfl | rfl | rfl | rfl | rfl <;> (simp [halZ, ordZ]; (repeat' split) <;> omega)
/-- A pitch of a key: its alteration is that of its step. -/
def inK (f : Int) (y : Pt) : Prop := y.a = altZ f y.s ∧ 0 ≤ y.s ∧ y.s ≤ 6
theorem ky_in {f : Int} {y : Pt} (h : inK f y) (h0 : 0 ≤ y.o) (h8 : y.o ≤ 8) : kyP y = 12 * y.o + hkZ f y.s := by
  obtain ⟨h1, h2, h3⟩ := h
  have := altZ_bd f y.s
  unfold kyP keyZ hkZ
  rw [if_pos (pvB_iff.2 (by omega)), natZ_os h2 h3, h1]
  omega
theorem ky_same {f : Int} {y z : Pt} (hy : inK f y) (hz : inK f z) (y0 : 0 ≤ y.o) (y8 : y.o ≤ 8) (z0 : 0 ≤ z.o) (z8 : z.o ≤ 8) (he : kyP y = kyP z) : y.s = z.s ∧ y.o = z.o := by
  rw [ky_in hy y0 y8, ky_in hz z0 z8] at he
  obtain ⟨_, h2, h3⟩ := hy
  obtain ⟨_, g2, g3⟩ := hz
  have w1 := hk_wrap (f := f) h2 h3 g2 g3
  have w2 := hk_wrap (f := f) g2 g3 h2 h3
  rcases (show y.s < z.s ∨ y.s = z.s ∨ z.s < y.s by omega) with h | h | h
  · have := hk_up (f := f) h2 h g3; omega
  · rw [h] at he; exact ⟨h, by omega⟩
  · have := hk_up (f := f) g2 h h3; omega
theorem ft_in {f : Int} {x : Pt} {g : Int} (hx : inK f x) : ∀ y ∈ ftL f x g, inK f y := by
  intro y hy
  by_cases h : ftL f x g = []
  · rw [h] at hy; cases hy
  · obtain ⟨_, _, _, _, e⟩ := ft_of h
    rw [e] at hy
    rcases List.mem_cons.1 hy with rfl | hy
    · exact hx
    · obtain ⟨k, _, rfl⟩ := List.mem_map.1 hy
      exact ⟨rfl, by unfold ftT plP; dsimp only; omega, by unfold ftT plP; dsimp only; omega⟩
theorem ft_steps (f : Int) (x : Pt) (g : Int) : (ftL f x g).Pairwise fun y z => y.s ≠ z.s := by
  by_cases h : ftL f x g = []
  · rw [h]; exact List.Pairwise.nil
  · obtain ⟨_, h2, _, _, e⟩ := ft_of h
    rw [e]
    obtain ⟨h3, h4, h5⟩ := plZ_of h2
    have := pvP_iff.1 h2
    rw [List.pairwise_cons, List.pairwise_map]
    have hs : ∀ k, (ftT f x k).s = (plZ x + k) % 7 := fun k => rfl
    refine ⟨fun y hy => ?_, ?_⟩
    · obtain ⟨k, hk, rfl⟩ := List.mem_map.1 hy
      have := fg_bd hk
      rw [hs]; omega
    · rcases fg_cases g with ⟨_, e⟩ | ⟨_, e⟩ | ⟨_, e⟩ | ⟨_, e⟩ | ⟨_, _, _, _, e⟩ <;> rw [e] <;> simp [hs] <;> omega
theorem cdO_mem {a : Int} {t y : Pt} (h : y ∈ cdO a t) : y.s = t.s ∧ y.a = t.a ∧ 0 ≤ y.o ∧ y.o ≤ 8 ∧ kyP y = a := by
  unfold cdO at h
  obtain ⟨o, ho, h⟩ := List.mem_flatMap.1 h
  have := List.mem_range.1 ho
  split at h
  · rename_i e
    obtain rfl := List.mem_singleton.1 h
    exact ⟨rfl, rfl, by dsimp only; omega, by dsimp only; omega, e⟩
  · cases h
/-- Above a bass of the key no two pitches have one key. -/
theorem cd_up {f : Int} {x : Pt} {g : Int} (hx : inK f x) : (cdL (ftL f x g)).Pairwise fun y z => kyP y < kyP z := by
  have hin := ft_in (g := g) hx
  have hst := ft_steps f x g
  have hO : ∀ {a : Int} {t y : Pt}, t ∈ ftL f x g → y ∈ cdO a t → inK f y := fun ht hy => by
    obtain ⟨e1, e2, _⟩ := cdO_mem hy
    obtain ⟨i1, i2, i3⟩ := hin _ ht
    exact ⟨by rw [e2, e1, i1], by omega, by omega⟩
  unfold cdL
  rw [List.pairwise_flatMap]
  refine ⟨fun k _ => ?_, ?_⟩
  · unfold cdT
    rw [List.pairwise_flatMap]
    refine ⟨fun t ht => ?_, ?_⟩
    · unfold cdO
      rw [List.pairwise_flatMap]
      refine ⟨fun o _ => by split <;> simp, ?_⟩
      refine List.Pairwise.imp_of_mem ?_ List.pairwise_lt_range
      intro o o' ho ho' hlt y hy z hz
      have hm := List.mem_range.1 ho
      have hm' := List.mem_range.1 ho'
      split at hy
      · rename_i e
        split at hz
        · rename_i e'
          obtain rfl := List.mem_singleton.1 hy
          obtain rfl := List.mem_singleton.1 hz
          obtain ⟨i1, i2, i3⟩ := hin _ ht
          have := ky_same (f := f) (y := ⟨t.s, t.a, (o : Int)⟩) (z := ⟨t.s, t.a, (o' : Int)⟩) ⟨i1, i2, i3⟩ ⟨i1, i2, i3⟩ (by dsimp only; omega) (by dsimp only; omega) (by dsimp only; omega) (by dsimp only; omega) (by rw [e, e'])
          have := this.2
          dsimp only at this
          omega
        · cases hz
      · cases hy
    · refine List.Pairwise.imp_of_mem ?_ hst
      intro t t' ht ht' hne y hy z hz
      obtain ⟨a1, _, a3, a4, a5⟩ := cdO_mem hy
      obtain ⟨b1, _, b3, b4, b5⟩ := cdO_mem hz
      have := (ky_same (hO ht hy) (hO ht' hz) a3 a4 b3 b4 (by rw [a5, b5])).1
      exact absurd (by rw [← a1, ← b1, this]) hne
  · refine List.Pairwise.imp_of_mem ?_ List.pairwise_lt_range
    intro k k' _ _ hlt y hy z hz
    unfold cdT at hy hz
    obtain ⟨t, _, hy⟩ := List.mem_flatMap.1 hy
    obtain ⟨t', _, hz⟩ := List.mem_flatMap.1 hz
    have := (cdO_mem hy).2.2.2.2
    have := (cdO_mem hz).2.2.2.2
    omega
/-- The keys of one chord, from the second voice on, are not behind those of another one. -/
def lxZ (s s' : List Pt) : Prop := k4 s 1 < k4 s' 1 ∨ k4 s 1 = k4 s' 1 ∧ (k4 s 2 < k4 s' 2 ∨ k4 s 2 = k4 s' 2 ∧ k4 s 3 ≤ k4 s' 3)
theorem first_keys {f : Int} {x : Pt} {g : Int} {s0 s : List Pt} (hx : inK f x) (h0 : (skL f x g).head? = some s0) (h : s ∈ skL f x g) : lxZ s0 s := by
  obtain ⟨i, j, k, i', j', k', hl, b1, b2, b3, c1, c2, c3, rfl, rfl⟩ := sk_first h0 h
  have hp := List.pairwise_iff_getElem.1 (cd_up (g := g) hx)
  have up : ∀ {u v : Nat}, u < v → v < (cdL (ftL f x g)).length → kyP ((cdL (ftL f x g)).getD u x) < kyP ((cdL (ftL f x g)).getD v x) := fun {u v} huv hv => by
    have := hp u v (by omega) hv huv
    rw [List.getD_eq_getElem?_getD, List.getD_eq_getElem?_getD, List.getElem?_eq_getElem (show u < (cdL (ftL f x g)).length by omega), List.getElem?_eq_getElem hv]
    exact this
  show kyP _ < kyP _ ∨ kyP _ = kyP _ ∧ (kyP _ < kyP _ ∨ kyP _ = kyP _ ∧ kyP _ ≤ kyP _)
  rcases hl with h1 | ⟨rfl, h1 | ⟨rfl, h1⟩⟩
  · exact Or.inl (up h1 (by omega))
  · exact Or.inr ⟨rfl, Or.inl (up h1 (by omega))⟩
  · refine Or.inr ⟨rfl, Or.inr ⟨rfl, ?_⟩⟩
    rcases Nat.lt_or_eq_of_le h1 with h2 | rfl
    · exact Int.le_of_lt (up h2 c3)
    · exact Int.le_refl _
/-- One bass is realized alone: the first chord of a realized bass is not before the chord for its first pitch alone. -/
theorem rz_one {f : Int} {bs : List Pt} {gs : List Int} {out : List (List Pt)} (h : rzZ f bs gs = some out) (hk : ∀ x ∈ bs, inK f x) : ∃ s0 s, rzZ f (bs.take 1) (gs.take 1) = some [s0] ∧ out[0]? = some s ∧ s0.length = 4 ∧ s.length = 4 ∧ lxZ s0 s := by
  obtain ⟨⟨c1, c2, c3, c4⟩, hl, _, _, hm⟩ := rz_right h
  obtain ⟨s, hs⟩ : ∃ s, out[0]? = some s := ⟨_, List.getElem?_eq_getElem (by omega)⟩
  obtain ⟨x, g, hx, hg, hsk⟩ := hm 0 s hs
  obtain ⟨s0, h0⟩ : ∃ s0, (skL f x g).head? = some s0 := by
    cases e : skL f x g with
    | nil => rw [e] at hsk; cases hsk
    | cons a t => exact ⟨a, rfl⟩
  have e1 : bs.take 1 = [x] := by
    cases bs with
    | nil => simp at c1
    | cons b t => simp at hx; subst hx; rfl
  have e2 : gs.take 1 = [g] := by
    cases gs with
    | nil => simp at hg
    | cons b t => simp at hg; subst hg; rfl
  refine ⟨s0, s, ?_, hs, (sk_is (List.mem_of_mem_head? h0)).2.1, (sk_is hsk).2.1, first_keys (hk x (List.mem_of_getElem? hx)) h0 hsk⟩
  rw [e1, e2, rz_in ⟨by simp, by simp, rfl, c4⟩]
  show rzF none [skL f x g] = _
  rw [rz_cons]
  have : (skL f x g).find? (fun s => wyB none s && gdB [] s) = some s0 := by
    cases e : skL f x g with
    | nil => rw [e] at h0; cases h0
    | cons a t =>
      rw [e] at h0
      cases h0
      rfl
  rw [this]
  rfl

/- Plain facts for chapter 13: the program's way to realize a bass: the chords over a bass by voices, and that the first way through them is the first way through the model's. -/

/- The pitches that a voice can take. -/
theorem range_none {α : Type} (p : Nat → Prop) [DecidablePred p] (g : Nat → α) : ∀ n, (∀ o, o < n → ¬ p o) → (List.range n).flatMap (fun o => if p o then [g o] else []) = []
  | 0, _ => rfl
  | n + 1, h => by
    rw [List.range_succ, List.flatMap_append, range_none p g n (fun o ho => h o (by omega))]
    simp [h n (by omega)]
theorem range_one {α : Type} (p : Nat → Prop) [DecidablePred p] (g : Nat → α) : ∀ (n o0 : Nat), o0 < n → p o0 → (∀ o, o < n → p o → o = o0) → (List.range n).flatMap (fun o => if p o then [g o] else []) = [g o0]
  | 0, _, h, _, _ => by omega
  | n + 1, o0, h, h0, hu => by
    rw [List.range_succ, List.flatMap_append]
    by_cases he : o0 = n
    · subst he
      rw [range_none p g o0 (fun o ho hc => by have := hu o (by omega) hc; omega)]
      simp [h0]
    · rw [range_one p g n o0 (by omega) h0 (fun o ho hc => hu o (by omega) hc)]
      have : ¬ p n := fun hc => he (hu n (by omega) hc).symm
      simp [this]
theorem ky_oct {s a o : Int} (h : pvB s a o = true) : kyP ⟨s, a, o⟩ = 12 * o + halZ s + a := by
  have h1 := (pvB_iff.1 h).1
  show keyZ s a o = _
  unfold keyZ
  rw [if_pos h, natZ_os h1.1 h1.2]
/-- A tone in the octave in which it has the key a. -/
def vtO (a : Int) (t : Pt) : List Pt := if (a - kyP t) % 12 = 0 then [⟨t.s, t.a, t.o + (a - kyP t) / 12⟩] else []
theorem vt_cd {t : Pt} (h : pvP t = true) {a : Int} (h1 : 36 ≤ a) (h2 : a ≤ 67) : vtO a t = cdO a t := by
  have hk := pvP_iff.1 h
  have hb := halZ_bd t.s
  have e0 : kyP t = 12 * t.o + halZ t.s + t.a := ky_oct h
  have ek : ∀ o : Nat, o < 9 → kyP ⟨t.s, t.a, (o : Int)⟩ = 12 * o + halZ t.s + t.a := fun o ho => ky_oct (pvB_iff.2 ⟨hk.1, hk.2.1, by omega, by omega⟩)
  unfold vtO cdO
  by_cases hm : (a - kyP t) % 12 = 0
  · rw [if_pos hm, range_one (fun o : Nat => kyP ⟨t.s, t.a, (o : Int)⟩ = a) (fun o : Nat => (⟨t.s, t.a, (o : Int)⟩ : Pt)) 9 (t.o + (a - kyP t) / 12).toNat (by omega) (by
      show kyP _ = a
      rw [ek _ (by omega)]; omega) (fun o ho hc => by
      have hc : kyP _ = a := hc
      rw [ek o ho] at hc; omega)]
    rw [show (((t.o + (a - kyP t) / 12).toNat : Nat) : Int) = t.o + (a - kyP t) / 12 by omega]
  · rw [if_neg hm, range_none (fun o : Nat => kyP ⟨t.s, t.a, (o : Int)⟩ = a) (fun o : Nat => (⟨t.s, t.a, (o : Int)⟩ : Pt)) 9 (fun o ho hc => by
      have hc : kyP _ = a := hc
      rw [ek o ho] at hc; omega)]
theorem cdO_ky {a : Int} {t y : Pt} (h : y ∈ cdO a t) : kyP y = a ∧ y.s = t.s ∧ y.a = t.a ∧ 0 ≤ y.o ∧ y.o ≤ 8 := by
  unfold cdO at h
  obtain ⟨o, ho, h⟩ := List.mem_flatMap.1 h
  have := List.mem_range.1 ho
  split at h
  · rename_i e
    obtain rfl := List.mem_singleton.1 h
    exact ⟨e, rfl, rfl, by dsimp only; omega, by dsimp only; omega⟩
  · cases h
theorem cdT_ky {a : Int} {ts : List Pt} {y : Pt} (h : y ∈ cdT a ts) : kyP y = a := by
  obtain ⟨t, _, h⟩ := List.mem_flatMap.1 h
  exact (cdO_ky h).1
def vcL (a : Int) (ts : List Pt) (n : Nat) : List Pt := (List.range n).flatMap fun (k : Nat) => cdT (a + (k : Int)) ts
theorem vc_ky {a : Int} {ts : List Pt} {n : Nat} {y : Pt} (h : y ∈ vcL a ts n) : a ≤ kyP y ∧ kyP y < a + n := by
  obtain ⟨k, hk, h⟩ := List.mem_flatMap.1 h
  have := List.mem_range.1 hk
  have := cdT_ky h
  omega
theorem vc_add (a : Int) (ts : List Pt) (m n : Nat) : vcL a ts (m + n) = vcL a ts m ++ vcL (a + m) ts n := by
  unfold vcL
  rw [List.range_add, List.flatMap_append, List.flatMap_map]
  congr 2
  funext k
  rw [show a + ((m + k : Nat) : Int) = a + m + k by omega]
/-- What a voice can take: the program's list, by its keys. -/
def vtK (a : Int) (ts : List Pt) (n : Nat) : List Pt := (List.range n).flatMap fun (k : Nat) => ts.flatMap (vtO (a + (k : Int)))
theorem vtK_up (a : Int) (ts : List Pt) (n : Nat) : vtK a ts (n + 1) = vtK a ts n ++ ts.flatMap (vtO (a + (n : Int))) := by
  unfold vtK; rw [List.range_succ, List.flatMap_append]; simp
theorem flat_cong {α β : Type} {f g : α → List β} : ∀ {l : List α}, (∀ x ∈ l, f x = g x) → l.flatMap f = l.flatMap g
  | [], _ => rfl
  | x :: l, h => by rw [List.flatMap_cons, List.flatMap_cons, h x (by simp), flat_cong fun y hy => h y (by simp [hy])]
theorem flat_nil {α β : Type} {f : α → List β} {l : List α} (h : ∀ x ∈ l, f x = []) : l.flatMap f = [] := List.flatMap_eq_nil_iff.2 h
theorem vt_vc {a : Int} {ts : List Pt} {n : Nat} (h : ∀ t ∈ ts, pvP t = true) (h1 : 36 ≤ a) (h2 : a + n ≤ 68) : vtK a ts n = vcL a ts n := by
  unfold vtK vcL cdT
  refine flat_cong fun k hk => flat_cong fun t ht => ?_
  have := List.mem_range.1 hk
  exact vt_cd (h t ht) (by omega) (by omega)
/-- The list of a voice. -/
def vtL (v : Nat) (ts : List Pt) : List Pt := vtK (loZ v) ts 20
theorem vt_flat {α : Type} {v : Nat} {ts : List Pt} (hv : 1 ≤ v) (hv3 : v ≤ 3) (h : ∀ t ∈ ts, pvP t = true) {f : Pt → List α} (hf : ∀ y, y ∈ cdL ts → kyP y < loZ v ∨ hiZ v < kyP y → f y = []) : (vtL v ts).flatMap f = (cdL ts).flatMap f := by
  have key : ∀ (m n : Nat), m + (20 + n) = 32 → loZ v = 36 + m → hiZ v = 55 + m → (vtL v ts).flatMap f = (cdL ts).flatMap f := fun m n hmn hl hh => by
    have e : cdL ts = vcL 36 ts m ++ (vcL (36 + m) ts 20 ++ vcL (36 + m + (20 : Nat)) ts n) := by
      rw [← vc_add, ← vc_add, hmn]; rfl
    have em : ∀ y, y ∈ vcL 36 ts m → y ∈ cdL ts := fun y hy => by rw [e]; exact List.mem_append_left _ hy
    have en : ∀ y, y ∈ vcL (36 + m + (20 : Nat)) ts n → y ∈ cdL ts := fun y hy => by rw [e]; exact List.mem_append_right _ (List.mem_append_right _ hy)
    rw [e, List.flatMap_append, List.flatMap_append]
    rw [flat_nil (l := vcL 36 ts m) (fun y hy => hf y (em y hy) (by have := vc_ky hy; omega)), flat_nil (l := vcL (36 + m + (20 : Nat)) ts n) (fun y hy => hf y (en y hy) (by have := vc_ky hy; omega))]
    unfold vtL
    rw [vt_vc h (by omega) (by omega), hl]
    simp
  rcases (show v = 1 ∨ v = 2 ∨ v = 3 by omega) with rfl | rfl | rfl
  · exact key 0 12 (by omega) (by decide) (by decide)
  · exact key 7 5 (by omega) (by decide) (by decide)
  · exact key 12 0 (by omega) (by decide) (by decide)
theorem cd_up' (ts : List Pt) : (cdL ts).Pairwise fun y z => kyP y ≤ kyP z := by
  unfold cdL
  rw [List.pairwise_flatMap]
  refine ⟨fun k _ => ?_, ?_⟩
  · rw [List.pairwise_iff_forall_sublist]
    intro y z hs
    have h1 := cdT_ky (hs.subset (List.mem_cons_self))
    have h2 := cdT_ky (hs.subset (List.mem_cons_of_mem _ List.mem_cons_self))
    omega
  · refine List.Pairwise.imp ?_ (List.pairwise_lt_range)
    intro a b hab y hy z hz
    have h1 := cdT_ky hy
    have h2 := cdT_ky hz
    omega

/- Chords with the same keys. -/
theorem if_cong {p q : Prop} {α : Type} [Decidable p] [Decidable q] {a b c d : α} (h : p ↔ q) (h1 : a = c) (h2 : b = d) : (if p then a else b) = if q then c else d := by
  by_cases hp : p
  · rw [if_pos hp, if_pos (h.1 hp), h1]
  · rw [if_neg hp, if_neg (fun hq => hp (h.2 hq)), h2]
def eqv (a b : List Pt) : Prop := vo4 a = vo4 b ∧ ∀ i, i < 4 → k4 a i = k4 b i
theorem eqv.refl (a : List Pt) : eqv a a := ⟨rfl, fun _ _ => rfl⟩
theorem eqv.symm {a b : List Pt} (h : eqv a b) : eqv b a := ⟨h.1.symm, fun i hi => (h.2 i hi).symm⟩
theorem cr_eqv {a b : List Pt} (h : eqv a b) (hc : crP a) : crP b := by
  obtain ⟨i, hi, hc⟩ := hc
  exact ⟨i, hi, by rw [← h.2 _ (by omega), ← h.2 _ (by omega)]; exact hc⟩
theorem fa_eqv {a b : List Pt} (h : eqv a b) (hc : faP a) : faP b := by
  obtain ⟨i, h1, hi, hc⟩ := hc
  exact ⟨i, h1, hi, by rw [← h.2 _ (by omega), ← h.2 _ (by omega)]; exact hc⟩
theorem ra_eqv {a b : List Pt} (h : eqv a b) (hc : raP a) : raP b := by
  obtain ⟨i, hi, hc⟩ := hc
  exact ⟨i, hi, by rw [← h.2 _ (by omega)]; exact hc⟩
open Classical in
theorem st_eqv {a b : List Pt} (h : eqv a b) : stZ a = stZ b := by
  unfold stZ
  exact if_cong (by rw [h.1]) (if_cong ⟨cr_eqv h, cr_eqv h.symm⟩ rfl (if_cong ⟨fa_eqv h, fa_eqv h.symm⟩ rfl (if_cong ⟨ra_eqv h, ra_eqv h.symm⟩ rfl rfl))) rfl
theorem pr_eqv {a b c d : List Pt} (h : eqv a c) (g : eqv b d) {x : Int} (hc : prP a b x) : prP c d x := by
  obtain ⟨i, j, h1, h2, h3, h4, h5⟩ := hc
  refine ⟨i, j, h1, h2, ?_, ?_, ?_⟩
  · rw [← h.2 i (by omega), ← h.2 j h2, ← g.2 i (by omega), ← g.2 j h2]; exact h3
  · rw [← h.2 i (by omega), ← h.2 j h2]; exact h4
  · rw [← g.2 i (by omega), ← g.2 j h2]; exact h5
theorem le_eqv {a b c d : List Pt} (h : eqv a c) (g : eqv b d) (hc : leP a b) : leP c d := by
  obtain ⟨i, hi, hc⟩ := hc
  exact ⟨i, hi, by rw [← h.2 i hi, ← g.2 i hi]; exact hc⟩
open Classical in
theorem mv_eqv {a b c d : List Pt} (h : eqv a c) (g : eqv b d) : mvZ a b = mvZ c d := by
  have e1 : ∀ x, prP a b x ↔ prP c d x := fun x => ⟨pr_eqv h g, pr_eqv h.symm g.symm⟩
  unfold mvZ
  exact if_cong (by rw [h.1, g.1]) (if_cong (e1 7) rfl (if_cong (e1 0) rfl (if_cong ⟨le_eqv h g, le_eqv h.symm g.symm⟩ rfl rfl))) rfl

/- The first of a list, where what else could come first stands behind. -/
theorem find_back {α : Type} (R : α → α → Prop) (hR : ∀ x y, R x y → ¬ R y x) (P q : α → Bool) : ∀ l : List α, l.Pairwise R → (∀ x ∈ l, P x = true → q x = false → ∃ y ∈ l, R y x ∧ P y = true) → l.find? P = l.find? fun x => q x && P x
  | [], _, _ => rfl
  | a :: l, hp, h => by
    rw [List.pairwise_cons] at hp
    rw [List.find?_cons, List.find?_cons]
    cases hP : P a
    · rw [Bool.and_false]
      refine find_back R hR P q l hp.2 fun x hx h1 h2 => ?_
      obtain ⟨y, hy, hr, h3⟩ := h x (List.mem_cons_of_mem _ hx) h1 h2
      rcases List.mem_cons.1 hy with rfl | hy
      · rw [hP] at h3; cases h3
      · exact ⟨y, hy, hr, h3⟩
    · cases hq : q a
      · obtain ⟨y, hy, hr, _⟩ := h a List.mem_cons_self hP hq
        rcases List.mem_cons.1 hy with rfl | hy
        · exact absurd hr (hR _ _ hr)
        · exact absurd hr (hR _ _ (hp.1 y hy))
      · rfl

/- All chords by three numbers. -/
def G3 (n : Nat) : List (Nat × Nat × Nat) := (List.range n).flatMap fun i => (List.range n).flatMap fun j => (List.range n).map fun k => (i, j, k)
def lx3 (a b : Nat × Nat × Nat) : Prop := a.1 < b.1 ∨ a.1 = b.1 ∧ (a.2.1 < b.2.1 ∨ a.2.1 = b.2.1 ∧ a.2.2 < b.2.2)
theorem G3_up (n : Nat) : (G3 n).Pairwise lx3 := by
  unfold G3
  rw [List.pairwise_flatMap]
  refine ⟨fun i _ => ?_, ?_⟩
  · rw [List.pairwise_flatMap]
    refine ⟨fun j _ => ?_, ?_⟩
    · rw [List.pairwise_map]
      exact List.Pairwise.imp (fun {a b} hab => Or.inr ⟨rfl, Or.inr ⟨rfl, hab⟩⟩) List.pairwise_lt_range
    · refine List.Pairwise.imp ?_ (List.pairwise_lt_range)
      intro a b hab y hy z hz
      obtain ⟨_, _, rfl⟩ := List.mem_map.1 hy
      obtain ⟨_, _, rfl⟩ := List.mem_map.1 hz
      exact Or.inr ⟨rfl, Or.inl hab⟩
  · refine List.Pairwise.imp ?_ (List.pairwise_lt_range)
    intro a b hab y hy z hz
    obtain ⟨_, _, hy⟩ := List.mem_flatMap.1 hy
    obtain ⟨_, _, rfl⟩ := List.mem_map.1 hy
    obtain ⟨_, _, hz⟩ := List.mem_flatMap.1 hz
    obtain ⟨_, _, rfl⟩ := List.mem_map.1 hz
    exact Or.inl hab
theorem G3_mem {n i j k : Nat} : (i, j, k) ∈ G3 n ↔ i < n ∧ j < n ∧ k < n := by
  unfold G3
  simp only [List.mem_flatMap, List.mem_map, List.mem_range, Prod.mk.injEq]
  constructor
  · rintro ⟨a, ha, b, hb, c, hc, rfl, rfl, rfl⟩; exact ⟨ha, hb, hc⟩
  · rintro ⟨ha, hb, hc⟩; exact ⟨i, ha, j, hb, k, hc, rfl, rfl, rfl⟩
theorem flat_idx {α β : Type} (d : α) (f : α → List β) : ∀ c : List α, c.flatMap f = (List.range c.length).flatMap fun i => f (c.getD i d)
  | [] => rfl
  | x :: c => by
    rw [List.flatMap_cons, List.length_cons, List.range_succ_eq_map, List.flatMap_cons, List.flatMap_map, flat_idx d f c]
    rfl
theorem map_if {α β γ : Type} (g : α → β) (p : β → Bool) (s : β → γ) : ∀ l : List α, ((l.map g).filter p).map s = l.flatMap fun k => if p (g k) = true then [s (g k)] else []
  | [] => rfl
  | a :: l => by
    rw [List.map_cons, List.filter_cons, List.flatMap_cons, ← map_if g p s l]
    cases p (g a) <;> simp
def stk3 (x : Pt) (c : List Pt) (t : Nat × Nat × Nat) : List Pt := [x, c.getD t.1 x, c.getD t.2.1 x, c.getD t.2.2 x]
theorem G3_flat {γ : Type} (n : Nat) (p : Nat × Nat × Nat → Bool) (s : Nat × Nat × Nat → γ) : ((G3 n).filter p).map s = (List.range n).flatMap fun i => (List.range n).flatMap fun j => (List.range n).flatMap fun k => if p (i, j, k) = true then [s (i, j, k)] else [] := by
  unfold G3
  rw [List.filter_flatMap, List.map_flatMap]
  refine flat_cong fun i _ => ?_
  rw [List.filter_flatMap, List.map_flatMap]
  exact flat_cong fun j _ => map_if _ _ _ _
theorem range_from {β : Type} (f : Nat → List β) (i n : Nat) : (List.range' i (n - i)).flatMap f = (List.range n).flatMap fun j => if i ≤ j then f j else [] := by
  by_cases h : i ≤ n
  · have e : List.range n = List.range i ++ List.range' i (n - i) := by
      rw [List.range_eq_range', List.range_eq_range']
      have := List.range'_append_1 (s := 0) (m := i) (n := n - i)
      rw [Nat.zero_add, show i + (n - i) = n by omega] at this
      exact this.symm
    rw [e, List.flatMap_append, flat_nil (l := List.range i), List.nil_append]
    · refine flat_cong fun j hj => ?_
      rw [List.mem_range'_1] at hj
      rw [if_pos hj.1]
    · intro j hj
      have := List.mem_range.1 hj
      rw [if_neg (by omega)]
  · rw [show n - i = 0 by omega]
    symm
    refine flat_nil fun j hj => ?_
    have := List.mem_range.1 hj
    rw [if_neg (by omega)]
def srt3 (t : Nat × Nat × Nat) : Bool := decide (t.1 ≤ t.2.1) && decide (t.2.1 ≤ t.2.2)
theorem skI_G3 (x : Pt) (ts c : List Pt) : skI x ts c (List.range' 0 c.length) = ((G3 c.length).filter fun t => srt3 t && okS ts (stk3 x c t)).map (stk3 x c) := by
  rw [G3_flat]
  unfold skI
  rw [← List.range_eq_range']
  refine flat_cong fun i _ => ?_
  unfold skJ
  rw [range_from]
  refine flat_cong fun j _ => ?_
  by_cases hij : i ≤ j
  · rw [if_pos hij]
    unfold skK
    rw [range_from]
    refine flat_cong fun k _ => ?_
    by_cases hjk : j ≤ k
    · rw [if_pos hjk]
      simp [srt3, stk3, hij, hjk]
    · rw [if_neg hjk]
      simp [srt3, hjk]
  · rw [if_neg hij]
    symm
    refine flat_nil fun k _ => ?_
    simp [srt3, hij]
/-- The program's chords over the tones of a figure. -/
noncomputable def pkL (x : Pt) (ts : List Pt) : List (List Pt) := (vtL 1 ts).flatMap fun s => (vtL 2 ts).flatMap fun t => (vtL 3 ts).flatMap fun h => if okS ts [x, s, t, h] = true then [[x, s, t, h]] else []
theorem okS_rg {x s t h : Pt} {ts : List Pt} (hk : okS ts [x, s, t, h] = true) : (∀ i, i < 4 → loZ i ≤ k4 [x, s, t, h] i ∧ k4 [x, s, t, h] i ≤ hiZ i) ∧ (∀ i, i < 3 → k4 [x, s, t, h] i ≤ k4 [x, s, t, h] (i + 1)) := by
  unfold okS at hk
  rw [Bool.and_eq_true, decide_eq_true_iff] at hk
  obtain ⟨_, h1, _, h3⟩ := st_zero hk.1
  exact ⟨fun i hi => ⟨Int.not_lt.1 fun hc => h3 ⟨i, hi, Or.inl hc⟩, Int.not_lt.1 fun hc => h3 ⟨i, hi, Or.inr hc⟩⟩, fun i hi => Int.not_lt.1 fun hc => h1 ⟨i, hi, hc⟩⟩
theorem pk_G3 {x : Pt} {ts : List Pt} (h : ∀ t ∈ ts, pvP t = true) : pkL x ts = ((G3 (cdL ts).length).filter fun t => okS ts (stk3 x (cdL ts) t)).map (stk3 x (cdL ts)) := by
  rw [G3_flat]
  unfold pkL
  rw [vt_flat (v := 1) (by omega) (by omega) h, flat_idx x]
  · refine flat_cong fun i _ => ?_
    rw [vt_flat (v := 2) (by omega) (by omega) h, flat_idx x]
    · refine flat_cong fun j _ => ?_
      rw [vt_flat (v := 3) (by omega) (by omega) h, flat_idx x]
      · rfl
      · intro y _ hy
        rw [if_neg]
        intro hk
        have := (okS_rg hk).1 3 (by omega)
        have e : k4 [x, (cdL ts).getD i x, (cdL ts).getD j x, y] 3 = kyP y := rfl
        omega
    · intro y _ hy
      refine flat_nil fun z _ => ?_
      rw [if_neg]
      intro hk
      have := (okS_rg hk).1 2 (by omega)
      have e : k4 [x, (cdL ts).getD i x, y, z] 2 = kyP y := rfl
      omega
  · intro y _ hy
    refine flat_nil fun z _ => flat_nil fun u _ => ?_
    rw [if_neg]
    intro hk
    have := (okS_rg hk).1 1 (by omega)
    have e : k4 [x, y, z, u] 1 = kyP y := rfl
    omega
theorem vo4_four {x s t h : Pt} : vo4 [x, s, t, h] = true ↔ pvP x = true ∧ pvP s = true ∧ pvP t = true ∧ pvP h = true := by
  rw [vo4_iff]; simp
theorem eqv_four {x s t h s' t' h' : Pt} (hv : vo4 [x, s, t, h] = vo4 [x, s', t', h']) (h1 : kyP s = kyP s') (h2 : kyP t = kyP t') (h3 : kyP h = kyP h') : eqv [x, s, t, h] [x, s', t', h'] := by
  refine ⟨hv, fun i hi => ?_⟩
  rcases (show i = 0 ∨ i = 1 ∨ i = 2 ∨ i = 3 by omega) with rfl | rfl | rfl | rfl
  · rfl
  · exact h1
  · exact h2
  · exact h3
theorem has_perm {l m : List Pt} (h : l.Perm m) (y : Pt) : hasB l y = hasB m y := by
  rw [Bool.eq_iff_iff, hasB_iff, hasB_iff]
  exact ⟨fun ⟨x, hx, e⟩ => ⟨x, h.mem_iff.1 hx, e⟩, fun ⟨x, hx, e⟩ => ⟨x, h.mem_iff.2 hx, e⟩⟩
theorem okS_perm {ts a b : List Pt} (hp : a.Perm b) (he : eqv a b) (h : okS ts a = true) : okS ts b = true := by
  unfold okS at h ⊢
  rw [← st_eqv he, show (hasB b) = hasB a from funext fun y => (has_perm hp y).symm]
  exact h
/-- The first of the program's chords for which something holds that depends on keys alone is the first of the model's. -/
theorem pk_find {x : Pt} {ts : List Pt} (h : ∀ t ∈ ts, pvP t = true) (pred : List Pt → Bool) (hp : ∀ a b, eqv a b → pred a = pred b) : (pkL x ts).find? pred = (skI x ts (cdL ts) (List.range' 0 (cdL ts).length)).find? pred := by
  rw [pk_G3 h, skI_G3, List.find?_map, List.find?_map, List.find?_filter, List.find?_filter]
  congr 1
  have hup := cd_up' ts
  rw [List.pairwise_iff_getElem] at hup
  have hle : ∀ i j, i < j → j < (cdL ts).length → kyP ((cdL ts).getD i x) ≤ kyP ((cdL ts).getD j x) := fun i j hij hj => by
    rw [List.getD_eq_getElem?_getD, List.getElem?_eq_getElem (by omega), List.getD_eq_getElem?_getD, List.getElem?_eq_getElem hj]
    exact hup i j (by omega) hj hij
  have := find_back lx3 (fun a b h1 h2 => by unfold lx3 at h1 h2; omega) (fun t => okS ts (stk3 x (cdL ts) t) && (pred ∘ stk3 x (cdL ts)) t) srt3 (G3 (cdL ts).length) (G3_up _) (by
    rintro ⟨i, j, k⟩ hm hP hq
    obtain ⟨hi, hj, hk⟩ := G3_mem.1 hm
    rw [Bool.and_eq_true] at hP
    obtain ⟨h1, h2⟩ := hP
    have h2 : pred (stk3 x (cdL ts) (i, j, k)) = true := h2
    have hord := (okS_rg h1).2
    have o1 : kyP ((cdL ts).getD i x) ≤ kyP ((cdL ts).getD j x) := hord 1 (by omega)
    have o2 : kyP ((cdL ts).getD j x) ≤ kyP ((cdL ts).getD k x) := hord 2 (by omega)
    unfold stk3 at h1 h2
    dsimp only at h1 h2
    have hv4 : vo4 [x, (cdL ts).getD i x, (cdL ts).getD j x, (cdL ts).getD k x] = true := by
      unfold okS at h1
      rw [Bool.and_eq_true, decide_eq_true_iff] at h1
      exact (st_zero h1.1).1
    by_cases hij : i ≤ j
    · have hjk : k < j := by
        unfold srt3 at hq
        rw [Bool.and_eq_false_iff] at hq
        rcases hq with hq | hq <;> · rw [decide_eq_false_iff_not] at hq; dsimp only at hq; omega
      have e := hle k j hjk hj
      have he : kyP ((cdL ts).getD j x) = kyP ((cdL ts).getD k x) := by omega
      have hev : eqv [x, (cdL ts).getD i x, (cdL ts).getD j x, (cdL ts).getD k x] [x, (cdL ts).getD i x, (cdL ts).getD k x, (cdL ts).getD j x] := eqv_four (by
        rw [Bool.eq_iff_iff, vo4_four, vo4_four]; exact ⟨fun ⟨a, b, c, d⟩ => ⟨a, b, d, c⟩, fun ⟨a, b, c, d⟩ => ⟨a, b, d, c⟩⟩) rfl he he.symm
      refine ⟨(i, k, j), G3_mem.2 ⟨hi, hk, hj⟩, Or.inr ⟨rfl, Or.inl hjk⟩, ?_⟩
      rw [Bool.and_eq_true]
      exact ⟨okS_perm (List.Perm.cons _ (List.Perm.cons _ (List.Perm.swap _ _ _))) hev h1, (hp _ _ hev).symm.trans h2⟩
    · have hij : j < i := by omega
      have e := hle j i hij hi
      have he : kyP ((cdL ts).getD i x) = kyP ((cdL ts).getD j x) := by omega
      have hev : eqv [x, (cdL ts).getD i x, (cdL ts).getD j x, (cdL ts).getD k x] [x, (cdL ts).getD j x, (cdL ts).getD i x, (cdL ts).getD k x] := eqv_four (by
        rw [Bool.eq_iff_iff, vo4_four, vo4_four]; exact ⟨fun ⟨a, b, c, d⟩ => ⟨a, c, b, d⟩, fun ⟨a, b, c, d⟩ => ⟨a, c, b, d⟩⟩) he he.symm rfl
      refine ⟨(j, i, k), G3_mem.2 ⟨hj, hi, hk⟩, Or.inl hij, ?_⟩
      rw [Bool.and_eq_true]
      exact ⟨okS_perm (List.Perm.cons _ (List.Perm.swap _ _ _)) hev h1, (hp _ _ hev).symm.trans h2⟩)
  simp only [Bool.decide_and, Bool.decide_eq_true, Bool.and_assoc] at this ⊢
  exact this

/- The first way. -/
noncomputable def ppL (f : Int) (x : Pt) (g : Int) : List (List Pt) := pkL x (ftL f x g)
noncomputable def ppS (f : Int) (bs : List Pt) (gs : List Int) : List (List (List Pt)) := List.zipWith (ppL f) bs gs
def eqo : Option (List Pt) → Option (List Pt) → Prop
  | none, none => True
  | some a, some b => eqv a b
  | _, _ => False
theorem wy_eqo {p q : Option (List Pt)} (h : eqo p q) {a b : List Pt} (g : eqv a b) : wyB p a = wyB q b := by
  cases p <;> cases q
  · rfl
  · cases h
  · cases h
  · unfold wyB
    dsimp only
    rw [mv_eqv h g]
theorem rz_pp (f : Int) : ∀ (bs : List Pt) (gs : List Int) (p q : Option (List Pt)), eqo p q → rzF p (ppS f bs gs) = rzF q (skS f bs gs)
  | [], _, _, _, _ => by unfold ppS skS; rw [List.zipWith_nil_left, List.zipWith_nil_left, rzF, rzF]
  | _ :: _, [], _, _, _ => by unfold ppS skS; rw [List.zipWith_nil_right, List.zipWith_nil_right, rzF, rzF]
  | x :: bs, g :: gs, p, q, h => by
    have ih := rz_pp f bs gs
    have e1 : ppS f (x :: bs) (g :: gs) = ppL f x g :: ppS f bs gs := rfl
    have e2 : skS f (x :: bs) (g :: gs) = skL f x g :: skS f bs gs := rfl
    have hgd : ∀ a b, eqv a b → gdB (ppS f bs gs) a = gdB (skS f bs gs) b := fun a b hab => by unfold gdB; rw [ih (some a) (some b) hab]
    rw [e1, e2, rz_cons, rz_cons]
    have hf : (ppL f x g).find? (fun s => wyB p s && gdB (ppS f bs gs) s) = (skL f x g).find? fun s => wyB q s && gdB (skS f bs gs) s := by
      have : (fun s => wyB p s && gdB (ppS f bs gs) s) = fun s => wyB q s && gdB (skS f bs gs) s := funext fun s => by rw [wy_eqo h (eqv.refl s), hgd s s (eqv.refl s)]
      rw [this]
      exact pk_find ft_all _ fun a b hab => by
        rw [← hgd b a hab.symm, hgd b b (eqv.refl b)]
        rw [show wyB q a = wyB q b by
          cases q with
          | none => rfl
          | some c => exact wy_eqo (p := some c) (q := some c) (eqv.refl c) hab]
    rw [hf]
    congr 1
    funext s
    rw [ih (some s) (some s) (eqv.refl s)]
/-- What RealizeBass answers is the first way through the program's chords. -/
theorem rz_prog {f : Int} {bs : List Pt} {gs : List Int} (h1 : 1 ≤ bs.length) (h8 : bs.length ≤ 8) (hg : gs.length = bs.length) : rzZ f bs gs = rzF none (ppS f bs gs) := by
  by_cases hk : keyB f = true
  · rw [rz_in ⟨h1, h8, hg, hk⟩, rz_pp f bs gs none none trivial]
  · rw [rz_out (fun h => hk h.2.2.2)]
    cases bs with
    | nil => simp at h1
    | cons x bs =>
      cases gs with
      | nil => simp at hg
      | cons g gs =>
        have e1 : ppS f (x :: bs) (g :: gs) = ppL f x g :: ppS f bs gs := rfl
        have e2 : ppL f x g = [] := by
          have : ftL f x g = [] := ft_no fun h => hk h.1
          unfold ppL
          rw [this]
          rfl
        rw [e1, e2, rz_cons]
        rfl
/-- What is left of the chords when those are struck from which there is no way: step by step from the end. -/
theorem pn_step (T : List (List Pt)) (r : List (List (List Pt))) (s : List Pt) : gdB (T :: r) s = ((T.filter (gdB r)).find? (wyB (some s))).isSome := by
  rw [gd_cons, List.find?_filter, List.isSome_find?]
  congr 1
  funext t
  rw [Bool.decide_and, Bool.decide_eq_true, Bool.decide_eq_true, Bool.and_comm]
theorem rz_left (p : Option (List Pt)) (T : List (List Pt)) (r : List (List (List Pt))) : rzF p (T :: r) = ((T.filter (gdB r)).find? (wyB p)).bind fun s => (rzF (some s) r).map (s :: ·) := by
  rw [rz_cons, List.find?_filter]
  congr 2
  funext t
  rw [Bool.decide_and, Bool.decide_eq_true, Bool.decide_eq_true, Bool.and_comm]
/-- Chord k of the first way is the first one of those left to which the way from the chord before has no fault. -/
theorem rz_at : ∀ {TT : List (List (List Pt))} {p : Option (List Pt)} {out : List (List Pt)}, rzF p TT = some out → out.length = TT.length ∧ ∀ (k : Nat) (s : List Pt), out[k]? = some s → ∃ T, TT[k]? = some T ∧ (T.filter (gdB (TT.drop (k + 1)))).find? (wyB (if k = 0 then p else out[k - 1]?)) = some s
  | [], p, out, h => by
    rw [rzF] at h
    cases h
    exact ⟨rfl, fun k s h => by simp at h⟩
  | T :: r, p, out, h => by
    rw [rz_left] at h
    obtain ⟨s, hs, h⟩ := Option.bind_eq_some_iff.1 h
    obtain ⟨o, ho, rfl⟩ := Option.map_eq_some_iff.1 h
    obtain ⟨h1, h2⟩ := rz_at ho
    refine ⟨by simp [h1], fun k x hx => ?_⟩
    cases k with
    | zero =>
      simp at hx
      subst hx
      exact ⟨T, rfl, by simpa using hs⟩
    | succ k =>
      obtain ⟨T', e, hf⟩ := h2 k x (by simpa using hx)
      refine ⟨T', by simpa using e, ?_⟩
      rw [if_neg (by omega)]
      rw [show (T :: r).drop (k + 1 + 1) = r.drop (k + 1) from rfl, show k + 1 - 1 = k by omega]
      cases k with
      | zero => simpa using hf
      | succ k =>
        rw [if_neg (by omega)] at hf
        simpa using hf
theorem rz_no {p : Option (List Pt)} {T : List (List Pt)} {r : List (List (List Pt))} (h : (T.filter (gdB r)).find? (wyB p) = none) : rzF p (T :: r) = none := by rw [rz_left, h]; rfl
theorem rz_yes {p : Option (List Pt)} {T : List (List Pt)} {r : List (List (List Pt))} {s : List Pt} (h : (T.filter (gdB r)).find? (wyB p) = some s) : (rzF p (T :: r)).isSome = true := by
  have hs := List.mem_of_find?_eq_some h
  rw [List.mem_filter] at hs
  have := hs.2
  unfold gdB at this
  rw [rz_left, h]
  simp [this]
end Go.Proofs.YtfdglkiehkilnaaDoor
