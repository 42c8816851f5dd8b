/- Plain facts for chapter 16: the merge of two voices that the program goes through; the interval that the program looks at in IsCanon. -/
import Derived.Test.YtmkhpafcgobfhaaDoorPure16B
namespace Go.Proofs.YtmkhpafcgobfhaaDoor
set_option linter.unusedSimpArgs false
set_option linter.unusedVariables false
set_option maxRecDepth 8000

/- The merge. -/
/-- What a voice that has ended is heard as. -/
def rsE : Nt := ⟨true, 0, 0, 0, 0, false⟩
/-- The note or the rest of a voice at a tick. -/
def ntT (v : List Nt) (t : Int) : Nt := if naZ v t < 0 then rsE else (v[(naZ v t).toNat]?).getD rsE
structure Mee where
  t : Int
  x : Nt
  y : Nt
def mkM (a b : List Nt) (t : Int) : Mee := ⟨t, ntT a t, ntT b t⟩
/-- All meetings before the tick n. -/
def meN (a b : List Nt) (n : Nat) : List Mee := (onL a b n).map (mkM a b)
def meL (a b : List Nt) : List Mee := meN a b (moZ a b)
theorem meN_t (a b : List Nt) (n : Nat) : (meN a b n).map Mee.t = onL a b n := by
  unfold meN
  rw [List.map_map]
  have : ∀ t ∈ onL a b n, (Mee.t ∘ mkM a b) t = id t := fun t _ => rfl
  rw [List.map_congr_left this, List.map_id]
/-- At a tick i notes of a voice are over. -/
def AtT (v : List Nt) (t : Int) (i : Nat) : Prop := i ≤ v.length ∧ sumT (v.take i) ≤ t ∧ ∀ x, v[i]? = some x → t < sumT (v.take i) + x.t
theorem at_zero {v : List Nt} (h : tieB v = true) : AtT v 0 0 := ⟨Nat.zero_le _, by rw [sum_zero16]; exact Int.le_refl _, fun x hx => by
  have := (sum_step h hx).2.1
  rw [sum_zero16]
  omega⟩
theorem at_note {v : List Nt} {t : Int} {i : Nat} {x : Nt} (h : voB v = true) (ha : AtT v t i) (hx : v[i]? = some x) : ntT v t = x := by
  have e := na_at h hx ha.2.1 (ha.2.2 x hx)
  unfold ntT
  rw [e, if_neg (by omega), Int.toNat_natCast, hx]
  rfl
theorem at_over {v : List Nt} {t : Int} (ha : AtT v t v.length) : ntT v t = rsE := by
  have h1 := ha.2.1
  rw [List.take_length] at h1
  unfold ntT
  rw [na_end h1, if_pos (by omega)]
/-- The end of the note that is heard; no tick at all where the voice has ended. -/
def enT (v : List Nt) (i : Nat) : Int := match v[i]? with
  | some x => sumT (v.take i) + x.t
  | none => 9223372036854775807
theorem en_at {v : List Nt} {i : Nat} {x : Nt} (hx : v[i]? = some x) : enT v i = sumT (v.take i) + x.t := by unfold enT; rw [hx]
theorem en_end (v : List Nt) : enT v v.length = 9223372036854775807 := by unfold enT; rw [List.getElem?_eq_none (Nat.le_refl _)]
theorem en_over {v : List Nt} {i : Nat} (h : v.length ≤ i) : enT v i = 9223372036854775807 := by unfold enT; rw [List.getElem?_eq_none h]
theorem en_lt {v : List Nt} {t : Int} {i : Nat} (ha : AtT v t i) (ht : t ≤ 100000) : t < enT v i := by
  cases hx : v[i]? with
  | some x => rw [en_at hx]; exact ha.2.2 x hx
  | none =>
    have e : enT v i = 9223372036854775807 := by unfold enT; rw [hx]
    omega
theorem en_bd {v : List Nt} (h : voB v = true) {i : Nat} (hi : i < v.length) : 0 ≤ enT v i ∧ enT v i ≤ sumT v := by
  have ht := (voB_iff.1 h).1
  obtain ⟨x, hx⟩ : ∃ x, v[i]? = some x := ⟨_, List.getElem?_eq_getElem hi⟩
  rw [en_at hx, ← (sum_step ht hx).1]
  exact sum_bd16 ht (by omega)
/-- No note begins behind the tick and before that end. -/
theorem at_gap {v : List Nt} (h : voB v = true) {t s : Int} {i : Nat} (ha : AtT v t i) (h1 : t < s) (h2 : s < enT v i) : onB v s = false := by
  have ht := (voB_iff.1 h).1
  rw [← Bool.not_eq_true]
  intro ho
  obtain ⟨k, hk, rfl⟩ := onB_iff.1 ho
  by_cases hki : k ≤ i
  · have := sum_mono16 ht (k := k) (d := i - k) (by have := ha.1; omega)
    rw [show k + (i - k) = i by omega] at this
    have := ha.2.1
    omega
  · obtain ⟨x, hx⟩ : ∃ x, v[i]? = some x := ⟨_, List.getElem?_eq_getElem (by omega)⟩
    rw [en_at hx, ← (sum_step ht hx).1] at h2
    have := sum_mono16 ht (k := i + 1) (d := k - (i + 1)) (by omega)
    rw [show i + 1 + (k - (i + 1)) = k by omega] at this
    omega
/-- How many notes are over behind that end. -/
def upT (v : List Nt) (i : Nat) (t : Int) : Nat := if enT v i = t then i + 1 else i
theorem up_le (v : List Nt) (i : Nat) (t : Int) : i ≤ upT v i t := by unfold upT; split <;> omega
theorem at_up {v : List Nt} (h : voB v = true) {t s : Int} {i : Nat} (ha : AtT v t i) (h1 : t < s) (h2 : s ≤ enT v i) (h3 : s ≤ 100000) : AtT v s (upT v i s) := by
  have ht := (voB_iff.1 h).1
  unfold upT
  cases hx : v[i]? with
  | none =>
    have he : enT v i = 9223372036854775807 := by unfold enT; rw [hx]
    rw [if_neg (by omega)]
    exact ⟨ha.1, by have := ha.2.1; omega, fun x hx2 => by rw [hx] at hx2; cases hx2⟩
  | some x =>
    have hi := (List.getElem?_eq_some_iff.1 hx).1
    have hs := (sum_step ht hx).1
    have he := en_at hx
    by_cases hc : enT v i = s
    · rw [if_pos hc]
      refine ⟨by omega, by omega, fun z hz => ?_⟩
      have := (sum_step ht hz).2.1
      omega
    · rw [if_neg hc]
      refine ⟨ha.1, by have := ha.2.1; omega, fun z hz => ?_⟩
      rw [hx] at hz
      cases hz
      omega
theorem at_over_iff {a b : List Nt} (h1 : voB a = true) (h2 : voB b = true) {t : Nat} {i j : Nat} (ha : AtT a t i) (hb : AtT b t j) (hi : i = a.length) (hj : j = b.length) : moZ a b ≤ t := by
  have g1 := ha.2.1
  have g2 := hb.2.1
  rw [hi, List.take_length] at g1
  rw [hj, List.take_length] at g2
  unfold moZ
  omega
theorem at_more {a b : List Nt} (h1 : voB a = true) (h2 : voB b = true) {t : Nat} {i j : Nat} (ha : AtT a t i) (hb : AtT b t j) (h : i < a.length ∨ j < b.length) : t < moZ a b := by
  have ta := (voB_iff.1 h1).1
  have tb := (voB_iff.1 h2).1
  have sa := sum_all16 h1
  have sb := sum_all16 h2
  unfold moZ
  rcases h with h | h
  · have g := en_lt (v := a) ha (by
      obtain ⟨x, hx⟩ : ∃ x, a[i]? = some x := ⟨_, List.getElem?_eq_getElem h⟩
      have := ha.2.2 x hx
      have e := (sum_step ta hx).1
      have := (sum_bd16 ta (k := i + 1) (by omega)).2
      omega)
    have := (en_bd h1 h).2
    omega
  · have g := en_lt (v := b) hb (by
      obtain ⟨x, hx⟩ : ∃ x, b[j]? = some x := ⟨_, List.getElem?_eq_getElem h⟩
      have := hb.2.2 x hx
      have e := (sum_step tb hx).1
      have := (sum_bd16 tb (k := j + 1) (by omega)).2
      omega)
    have := (en_bd h2 h).2
    omega
/-- From one meeting to the next one. -/
theorem me_step {a b : List Nt} (h1 : voB a = true) (h2 : voB b = true) {t : Nat} {i j : Nat} (ha : AtT a t i) (hb : AtT b t j) (ho : (onB a (t : Int) || onB b (t : Int)) = true) (h : i < a.length ∨ j < b.length) :
    ∃ s : Nat, min (enT a i) (enT b j) = (s : Int) ∧ t < s ∧ s ≤ moZ a b ∧ s ≤ 46080 ∧ (onB a (s : Int) || onB b (s : Int)) = true ∧ meN a b s = meN a b t ++ [mkM a b t] ∧ AtT a s (upT a i s) ∧ AtT b s (upT b j s) ∧ i + j < upT a i s + upT b j s ∧ upT a i s ≤ a.length ∧ upT b j s ≤ b.length := by
  have ta := (voB_iff.1 h1).1
  have tb := (voB_iff.1 h2).1
  have sa := sum_all16 h1
  have sb := sum_all16 h2
  have hm := at_more h1 h2 ha hb h
  have hM : (moZ a b : Int) = max (sumT a) (sumT b) := by unfold moZ; omega
  have la := en_lt (v := a) ha (by omega)
  have lb := en_lt (v := b) hb (by omega)
  have hmin : min (enT a i) (enT b j) ≤ (moZ a b : Int) := by
    rcases h with h | h
    · have := (en_bd h1 h).2; omega
    · have := (en_bd h2 h).2; omega
  obtain ⟨s, hs⟩ : ∃ s : Nat, min (enT a i) (enT b j) = (s : Int) := ⟨(min (enT a i) (enT b j)).toNat, by omega⟩
  have hts : t < s := by omega
  have hon : (onB a (s : Int) || onB b (s : Int)) = true := by
    rw [Bool.or_eq_true]
    rcases Int.le_total (enT a i) (enT b j) with g | g
    · left
      cases hx : a[i]? with
      | none => have : enT a i = 9223372036854775807 := by unfold enT; rw [hx]
                omega
      | some x =>
        have e := en_at hx
        have e2 := (sum_step ta hx).1
        have := (List.getElem?_eq_some_iff.1 hx).1
        rw [show (s : Int) = sumT (a.take (i + 1)) by omega]
        exact onB_of (by omega)
    · right
      cases hx : b[j]? with
      | none => have : enT b j = 9223372036854775807 := by unfold enT; rw [hx]
                omega
      | some x =>
        have e := en_at hx
        have e2 := (sum_step tb hx).1
        have := (List.getElem?_eq_some_iff.1 hx).1
        rw [show (s : Int) = sumT (b.take (j + 1)) by omega]
        exact onB_of (by omega)
  have ua := at_up h1 ha (s := s) (by omega) (by omega) (by omega)
  have ub := at_up h2 hb (s := s) (by omega) (by omega) (by omega)
  refine ⟨s, hs, hts, by omega, by omega, hon, ?_, ua, ub, ?_, ua.1, ub.1⟩
  · unfold meN
    obtain ⟨d, rfl⟩ : ∃ d, s = t + 1 + d := ⟨s - (t + 1), by omega⟩
    rw [onL_skip, onL_up, if_pos ho, List.map_append, List.map_cons, List.map_nil]
    intro u g1 g2
    rw [Bool.or_eq_false_iff]
    exact ⟨at_gap h1 ha (by omega) (by omega), at_gap h2 hb (by omega) (by omega)⟩
  · have := up_le a i s
    have := up_le b j s
    rcases Int.le_total (enT a i) (enT b j) with g | g
    · have e : upT a i s = i + 1 := by unfold upT; rw [if_pos (by omega)]
      omega
    · have e : upT b j s = j + 1 := by unfold upT; rw [if_pos (by omega)]
      omega
theorem me_len (a b : List Nt) (n : Nat) : (meN a b n).length = (onL a b n).length := by unfold meN; rw [List.length_map]
theorem me_pre {a b : List Nt} {n m : Nat} (h : n ≤ m) : meN a b n <+: meN a b m := by
  obtain ⟨d, rfl⟩ : ∃ d, m = n + d := ⟨m - n, by omega⟩
  clear h
  induction d with
  | zero => exact List.prefix_refl _
  | succ d ih =>
    refine ih.trans ?_
    unfold meN
    rw [show n + (d + 1) = n + d + 1 by omega, onL_up, List.map_append]
    exact List.prefix_append _ _

/- Dissonances at a meeting. -/
def disB (m : Mee) : Bool := !m.x.r && !m.y.r && dsB16 ((max (keyZ m.x.s m.x.a m.x.o - keyZ m.y.s m.y.a m.y.o) (keyZ m.y.s m.y.a m.y.o - keyZ m.x.s m.x.a m.x.o)) % 12)
theorem sd_nt {v : List Nt} (t : Int) : sdZ v t = if (ntT v t).r = true then -100 else keyZ (ntT v t).s (ntT v t).a (ntT v t).o := by
  unfold sdZ ntT
  by_cases h : naZ v t < 0
  · rw [if_pos h, sdK_no h]; rfl
  · rw [if_neg h]
    unfold sdK
    rw [if_neg h]
    cases hx : v[(naZ v t).toNat]? with
    | none => rfl
    | some x => rfl
theorem dis_is {a b : List Nt} {t : Int} (ha : (ntT a t).r = false → -100 < sdZ a t) (hb : (ntT b t).r = false → -100 < sdZ b t) : disB (mkM a b t) = dkB (sdZ a t) (sdZ b t) := by
  unfold disB dkB mkM
  dsimp only
  have e1 := sd_nt (v := a) t
  have e2 := sd_nt (v := b) t
  cases h1 : (ntT a t).r
  · cases h2 : (ntT b t).r
    · rw [h1, if_neg (by decide)] at e1
      rw [h2, if_neg (by decide)] at e2
      rw [decide_eq_true (ha h1), decide_eq_true (hb h2), e1, e2]
      rfl
    · rw [h2, if_pos rfl] at e2
      rw [e2]
      simp
  · rw [h1, if_pos rfl] at e1
    rw [e1]
    simp
/-- The first meeting with a dissonance. -/
def fdL : List Mee → Int
  | [] => -1
  | m :: l => if disB m = true then m.t else fdL l
theorem fd_none : ∀ {l : List Mee}, (∀ m ∈ l, disB m = false) → fdL l = -1
  | [], _ => rfl
  | m :: l, h => by
    unfold fdL
    rw [if_neg (by rw [h m List.mem_cons_self]; decide)]
    exact fd_none fun s hs => h s (List.mem_cons_of_mem _ hs)
theorem fd_hit : ∀ {l : List Mee} {m : Mee} {r : List Mee}, (∀ m ∈ l, disB m = false) → disB m = true → fdL (l ++ m :: r) = m.t
  | [], m, r, _, h => by
    show (if disB m = true then m.t else fdL r) = m.t
    rw [if_pos h]
  | x :: l, m, r, hl, h => by
    show (if disB x = true then x.t else fdL (l ++ m :: r)) = m.t
    rw [if_neg (by rw [hl x List.mem_cons_self]; decide)]
    exact fd_hit (fun s hs => hl s (List.mem_cons_of_mem _ hs)) h
theorem fd_is {a b : List Nt} : ∀ {l : List Int}, (∀ t ∈ l, disB (mkM a b t) = dkB (sdZ a t) (sdZ b t)) → fdL (l.map (mkM a b)) = mfF a b l
  | [], _ => rfl
  | t :: l, h => by
    rw [List.map_cons]
    unfold fdL mfF
    rw [h t List.mem_cons_self, fd_is fun s hs => h s (List.mem_cons_of_mem _ hs)]
    rfl
theorem nt_ok {v : List Nt} (h : voB v = true) (t : Int) : ntT v t = rsE ∨ nvB (ntT v t) = true := by
  unfold ntT
  split
  · exact Or.inl rfl
  · cases hx : v[(naZ v t).toNat]? with
    | none => exact Or.inl rfl
    | some x => exact Or.inr (tieB_at (voB_iff.1 h).1 hx)

/- The interval that the program looks at. -/
/-- The interval from the first tone of a voice to the one at its place. -/
def itP : List Nt → List Nt → Bool × Int × Int
  | x :: v, z :: s => if x.r = true then itP v s else if ofB x.s x.a x.o z.s z.a z.o = true then (true, dpZ x.s x.o z.s z.o, keyZ z.s z.a z.o - keyZ x.s x.a x.o) else (false, 0, 0)
  | _, _ => (true, 0, 0)
theorem it_rest : ∀ {k : Nat} {v s : List Nt}, v.length = s.length → (∀ (j : Nat) (x : Nt), j < k → v[j]? = some x → x.r = true) → itP v s = itP (v.drop k) (s.drop k)
  | 0, _, _, _, _ => rfl
  | k + 1, [], s, hl, _ => by
    rw [List.drop_nil]
    cases s with
    | nil => rfl
    | cons z s => cases hl
  | k + 1, x :: v, [], hl, _ => by cases hl
  | k + 1, x :: v, z :: s, hl, h => by
    have hx : x.r = true := h 0 x (by omega) rfl
    show itP (x :: v) (z :: s) = itP (v.drop k) (s.drop k)
    rw [show itP (x :: v) (z :: s) = itP v s from by
      show (if x.r = true then itP v s else _) = _
      rw [if_pos hx]]
    exact it_rest (k := k) (by simpa using hl) fun j y hj hy => h (j + 1) y (by omega) (by rw [List.getElem?_cons_succ]; exact hy)
theorem it_hit {k : Nat} {v s : List Nt} {x z : Nt} (hl : v.length = s.length) (h : ∀ (j : Nat) (x : Nt), j < k → v[j]? = some x → x.r = true) (hx : v[k]? = some x) (hz : s[k]? = some z) (hr : x.r = false) :
    itP v s = if ofB x.s x.a x.o z.s z.a z.o = true then (true, dpZ x.s x.o z.s z.o, keyZ z.s z.a z.o - keyZ x.s x.a x.o) else (false, 0, 0) := by
  rw [it_rest hl h]
  have h1 := (List.getElem?_eq_some_iff.1 hx).1
  have h2 := (List.getElem?_eq_some_iff.1 hz).1
  rw [List.drop_eq_getElem_cons h1, List.drop_eq_getElem_cons h2, (List.getElem?_eq_some_iff.1 hx).2, (List.getElem?_eq_some_iff.1 hz).2]
  show (if x.r = true then _ else _) = _
  rw [if_neg (by rw [hr]; decide)]
theorem it_none {v s : List Nt} (hl : v.length = s.length) (h : ∀ (j : Nat) (x : Nt), v[j]? = some x → x.r = true) : itP v s = (true, 0, 0) := by
  rw [it_rest (k := v.length) hl fun j x _ => h j x, List.drop_length, hl, List.drop_length]
  rfl
theorem ic_first {v s : List Nt} (h : icB v s = true) : ∃ d u, s = rsN d :: u ∧ u.length = v.length ∧ (itP v u).1 = true ∧ caB v d (itP v u).2.1 (itP v u).2.2 = true ∧ caL v d (itP v u).2.1 (itP v u).2.2 = s := by
  have hi := h
  obtain ⟨d, st, ha, h1, rfl⟩ := icB_iff.1 h
  have e := ca_is h1
  refine ⟨d, v.map (shX st ha), e, by simp, ?_⟩
  by_cases hall : ∀ (j : Nat) (x : Nt), v[j]? = some x → x.r = true
  · rw [it_none (by simp) hall]
    refine ⟨rfl, ?_⟩
    obtain ⟨d', g1, g2⟩ := (ic_none (v := v) (s := caL v d st ha) fun k x z hx _ => Or.inl (hall k x hx)).1 hi
    have e2 := ca_is g1
    rw [g2, e] at e2
    have e3 : d = d' := congrArg Nt.t (List.cons.inj e2).1
    subst e3
    exact ⟨g1, g2⟩
  · obtain ⟨k, hk, hr, hmin⟩ : ∃ k, ∃ hk : k < v.length, v[k].r = false ∧ ∀ (j : Nat) (x : Nt), j < k → v[j]? = some x → x.r = true := by
      have hex : ∃ k : Nat, ∃ x : Nt, v[k]? = some x ∧ x.r = false := by
        refine Classical.byContradiction fun hn => hall fun j x hx => ?_
        cases hxr : x.r
        · exact absurd ⟨j, x, hx, hxr⟩ hn
        · rfl
      have key : ∀ n, (∃ k : Nat, k < n ∧ ∃ x : Nt, v[k]? = some x ∧ x.r = false) → ∃ k : Nat, (∃ x : Nt, v[k]? = some x ∧ x.r = false) ∧ ∀ (j : Nat) (x : Nt), j < k → v[j]? = some x → x.r = true := by
        intro n
        induction n with
        | zero => rintro ⟨k, hk, _⟩; omega
        | succ n ih =>
          rintro ⟨k, hk, x, hx, hr⟩
          by_cases hlt : ∃ k : Nat, k < n ∧ ∃ x : Nt, v[k]? = some x ∧ x.r = false
          · exact ih hlt
          · refine ⟨k, ⟨x, hx, hr⟩, fun j y hj hy => ?_⟩
            cases hyr : y.r
            · exact absurd ⟨j, by omega, y, hy, hyr⟩ hlt
            · rfl
      obtain ⟨k, x, hx, hr⟩ := hex
      obtain ⟨k2, ⟨y, hy, hyr⟩, hm⟩ := key (k + 1) ⟨k, by omega, x, hx, hr⟩
      have hk2 := (List.getElem?_eq_some_iff.1 hy)
      exact ⟨k2, hk2.1, by rw [hk2.2]; exact hyr, hm⟩
    have hx : v[k]? = some v[k] := List.getElem?_eq_getElem hk
    have hz : (v.map (shX st ha))[k]? = some (shX st ha v[k]) := by rw [List.getElem?_map, hx]; rfl
    have hz2 : (caL v d st ha)[k + 1]? = some (shX st ha v[k]) := by rw [e, List.getElem?_cons_succ]; exact hz
    obtain ⟨g0, d', g1, g2⟩ := (ic_note hx hz2 hr).1 hi
    have e2 := ca_is g1
    rw [g2, e] at e2
    have e3 : d = d' := congrArg Nt.t (List.cons.inj e2).1
    subst e3
    rw [it_hit (by simp) hmin hx hz hr, if_pos g0]
    exact ⟨rfl, g1, g2⟩
/-- What the program answers in IsCanon, in its order. -/
theorem ic_prog {v u : List Nt} {z : Nt} {b : Bool} {st ha : Int} (hi : itP v u = (b, st, ha)) : icB v (z :: u) = true ↔ b = true ∧ caB v z.t st ha = true ∧ caL v z.t st ha = z :: u := by
  constructor
  · intro h
    obtain ⟨d, u', e, _, h1, h2, h3⟩ := ic_first h
    obtain ⟨e1, e2⟩ := List.cons.inj e
    subst e1 e2
    rw [hi] at h1 h2 h3
    exact ⟨h1, h2, h3⟩
  · intro h
    exact icB_iff.2 ⟨_, _, _, h.2.1, h.2.2⟩
theorem it_bd : ∀ {v u : List Nt} {b : Bool} {st ha : Int}, itP v u = (b, st, ha) → (-21 ≤ st ∧ st ≤ 21) ∧ (-60 ≤ ha ∧ ha ≤ 60)
  | [], u, b, st, ha, h => by
    have e : itP [] u = (true, 0, 0) := rfl
    rw [e] at h
    cases h
    omega
  | x :: v, [], b, st, ha, h => by
    have e : itP (x :: v) [] = (true, 0, 0) := rfl
    rw [e] at h
    cases h
    omega
  | x :: v, z :: u, b, st, ha, h => by
    unfold itP at h
    split at h
    · exact it_bd h
    · split at h
      · rename_i ho
        unfold ofB at ho
        rw [Bool.and_eq_true] at ho
        have := ivB_iff.1 ho.2
        cases h
        omega
      · cases h
        omega
theorem ic_bad {v s : List Nt} (h : voB s = false ∨ ¬ s.length = v.length + 1 ∨ voB v = false) : icB v s = false := by
  rw [← Bool.not_eq_true]
  intro hi
  obtain ⟨h1, h2, h3, _⟩ := ic_shape hi
  rcases h with h | h | h
  · rw [h] at h2; cases h2
  · exact h h3
  · rw [h] at h1; cases h1
end Go.Proofs.YtmkhpafcgobfhaaDoor
