/- Plain facts for chapter 16: what sounds at a tick, dissonances between two voices; canons, good delays. -/
import Derived.Test.YtmkhpafcgobfhaaDoorPure16
namespace Go.Proofs.YtmkhpafcgobfhaaDoor
set_option linter.unusedSimpArgs false
set_option linter.unusedVariables false
set_option maxRecDepth 8000

/- The note at a tick. -/
theorem na_at {v : List Nt} (h : voB v = true) {j : Nat} {x : Nt} {t : Int} (hx : v[j]? = some x) (h1 : sumT (v.take j) ≤ t) (h2 : t < sumT (v.take j) + x.t) : naZ v t = j := by
  have ht := (voB_iff.1 h).1
  have hj := (List.getElem?_eq_some_iff.1 hx).1
  have h0 := (sum_bd16 ht (k := j) (by omega)).1
  unfold naZ
  rw [h, decide_eq_true (show 0 ≤ t by omega)]
  show naL 0 v t = j
  rcases naL_is v 0 t ht (by omega) with ⟨_, g2⟩ | ⟨i, z, g1, g2, g3, g4⟩
  · have h3 := (sum_step ht hx).1
    have h4 := (sum_bd16 ht (k := j + 1) (by omega)).2
    omega
  · rw [g1, Nat.zero_add]
    have hi := (List.getElem?_eq_some_iff.1 g2).1
    have e : i = j := by
      rcases Nat.lt_trichotomy i j with hlt | heq | hgt
      · have h5 := (sum_step ht g2).1
        have h6 := sum_mono16 ht (k := i + 1) (d := j - (i + 1)) (by omega)
        rw [show i + 1 + (j - (i + 1)) = j by omega] at h6
        omega
      · exact heq
      · have h5 := (sum_step ht hx).1
        have h6 := sum_mono16 ht (k := j + 1) (d := i - (j + 1)) (by omega)
        rw [show j + 1 + (i - (j + 1)) = i by omega] at h6
        omega
    rw [e]
theorem na_end {v : List Nt} {t : Int} (h : sumT v ≤ t) : naZ v t = -1 := by
  unfold naZ
  split
  · rename_i hc
    simp at hc
    have ht := (voB_iff.1 hc.1).1
    rcases naL_is v 0 t ht hc.2 with ⟨g1, _⟩ | ⟨i, z, _, g2, g3, g4⟩
    · exact g1
    · have hi := (List.getElem?_eq_some_iff.1 g2).1
      have h5 := (sum_step ht g2).1
      have h6 := (sum_bd16 ht (k := i + 1) (by omega)).2
      omega
  · rfl
/-- Where a note begins, or the voice ends, the note is another one than a tick before. -/
theorem na_on {v : List Nt} (h : voB v = true) {t : Int} (h0 : 0 < t) (ho : onB v t = true) : naZ v t ≠ naZ v (t - 1) := by
  have ht := (voB_iff.1 h).1
  obtain ⟨j, g1, g2, g3⟩ := onB_pos (Int.le_refl 0) h0 ho
  obtain ⟨i, rfl⟩ : ∃ i, j = i + 1 := ⟨j - 1, by omega⟩
  obtain ⟨x, hx⟩ : ∃ x, v[i]? = some x := ⟨_, List.getElem?_eq_getElem (by omega)⟩
  obtain ⟨s1, s2, _⟩ := sum_step ht hx
  rw [na_at h hx (by omega) (by omega : t - 1 < sumT (v.take i) + x.t)]
  by_cases hl : i + 1 = v.length
  · rw [na_end (by rw [← g3, hl, List.take_length]; exact Int.le_refl _)]
    omega
  · obtain ⟨z, hz⟩ : ∃ x, v[i + 1]? = some x := ⟨_, List.getElem?_eq_getElem (by omega)⟩
    obtain ⟨s3, s4, _⟩ := sum_step ht hz
    rw [na_at h hz (by omega) (by omega)]
    omega

/- What sounds. -/
/-- The key that sounds at a tick, or -100. -/
def sdK (v : List Nt) (n : Int) : Int := if n < 0 then -100 else match v[n.toNat]? with
  | some x => if x.r = true then -100 else keyZ x.s x.a x.o
  | none => -100
def sdZ (v : List Nt) (t : Int) : Int := sdK v (naZ v t)
theorem sdK_no {v : List Nt} {n : Int} (h : n < 0) : sdK v n = -100 := by unfold sdK; rw [if_pos h]
theorem sdK_at {v : List Nt} {j : Nat} {x : Nt} (h : v[j]? = some x) : sdK v (j : Int) = if x.r = true then -100 else keyZ x.s x.a x.o := by
  unfold sdK
  rw [if_neg (by omega), Int.toNat_natCast, h]
theorem sd_end {v : List Nt} {t : Int} (h : sumT v ≤ t) : sdZ v t = -100 := by
  unfold sdZ
  rw [na_end h, sdK_no (by omega)]
def dsB16 (m : Int) : Bool := m == 1 || m == 2 || m == 5 || m == 6 || m == 10 || m == 11
/-- Two keys sound, and are a dissonance. -/
def dkB (x y : Int) : Bool := decide (-100 < x) && decide (-100 < y) && dsB16 ((max (x - y) (y - x)) % 12)
theorem dk_comm (x y : Int) : dkB x y = dkB y x := by
  unfold dkB
  rw [Int.max_comm, Bool.and_comm (decide (-100 < x))]
theorem dk_self (x : Int) : dkB x x = false := by
  unfold dkB
  rw [show max (x - x) (x - x) = 0 by omega]
  simp [dsB16]
theorem dk_up (x : Int) : dkB x (x + 12) = false := by
  unfold dkB
  rw [show max (x - (x + 12)) (x + 12 - x) = 12 by omega]
  simp [dsB16]
theorem dk_no {x y : Int} (h : x = -100 ∨ y = -100) : dkB x y = false := by
  unfold dkB
  rcases h with rfl | rfl <;> simp
/-- What MeetFault answers. -/
def mfF (a b : List Nt) : List Int → Int
  | [] => -1
  | t :: l => if dkB (sdZ a t) (sdZ b t) = true then t else mfF a b l
def mfZ (a b : List Nt) : Int := mfF a b (mtL a b)
theorem mfF_none {a b : List Nt} : ∀ {l : List Int}, (∀ t ∈ l, dkB (sdZ a t) (sdZ b t) = false) → mfF a b l = -1
  | [], _ => rfl
  | t :: l, h => by
    unfold mfF
    rw [if_neg (by rw [h t List.mem_cons_self]; decide)]
    exact mfF_none fun s hs => h s (List.mem_cons_of_mem _ hs)
theorem mfF_comm (a b : List Nt) : ∀ l : List Int, mfF a b l = mfF b a l
  | [] => rfl
  | t :: l => by
    unfold mfF
    rw [dk_comm, mfF_comm a b l]
theorem mf_comm (a b : List Nt) : mfZ a b = mfZ b a := by
  unfold mfZ
  rw [mfF_comm, mt_comm]
theorem mf_self (a : List Nt) : mfZ a a = -1 := mfF_none fun t _ => dk_self _
theorem mfF_bd {a b : List Nt} : ∀ {l : List Int}, (∀ t ∈ l, 0 ≤ t) → -1 ≤ mfF a b l
  | [], _ => by unfold mfF; omega
  | t :: l, h => by
    unfold mfF
    have h1 := h t List.mem_cons_self
    have h2 := mfF_bd (a := a) (b := b) (l := l) fun s hs => h s (List.mem_cons_of_mem _ hs)
    split <;> omega
theorem mt_mem {a b : List Nt} {t : Int} (h : t ∈ mtL a b) : voB a = true ∧ voB b = true ∧ 0 ≤ t ∧ t < (moZ a b : Int) ∧ (onB a t = true ∨ onB b t = true) := by
  unfold mtL at h
  split at h
  · rename_i hv
    unfold bvB at hv
    rw [Bool.and_eq_true] at hv
    exact ⟨hv.1, hv.2, onL_mem.1 h⟩
  · cases h
theorem mf_bd (a b : List Nt) : -1 ≤ mfZ a b := mfF_bd fun t ht => (mt_mem ht).2.2.1
theorem mf_no {a b : List Nt} (h : bvB a b = false) : mfZ a b = -1 := by
  unfold mfZ mtL
  rw [if_neg (by rw [h]; decide)]
  rfl

/- A voice that is moved. -/
theorem naL_map (st ha : Int) : ∀ (v : List Nt) (k : Nat) (t : Int), naL k (v.map (shX st ha)) t = naL k v t
  | [], _, _ => rfl
  | x :: v, k, t => by
    rw [List.map_cons]
    unfold naL
    rw [shX_t, naL_map st ha v]
theorem na_shift {v : List Nt} {st ha t : Int} (h : shB v st ha = true) : naZ (v.map (shX st ha)) t = naZ v t := by
  unfold naZ
  rw [naL_map, sh_vo h, (shB_iff.1 h).1]
theorem key_shift {x : Nt} {st ha : Int} (hr : x.r = false) (ho : shO st ha x = true) : keyZ (shX st ha x).s (shX st ha x).a (shX st ha x).o = keyZ x.s x.a x.o + ha := by
  rw [shX_note hr]
  have := (ad_of (shO_note hr ho) rfl rfl rfl).2.2
  dsimp only
  omega
theorem sd_shift {v : List Nt} {st ha t : Int} (h : shB v st ha = true) : (sdZ v t = -100 ∧ sdZ (v.map (shX st ha)) t = -100) ∨ sdZ (v.map (shX st ha)) t = sdZ v t + ha := by
  unfold sdZ
  rw [na_shift h]
  obtain ⟨n, hn⟩ : ∃ n, naZ v t = n := ⟨_, rfl⟩
  rw [hn]
  by_cases h0 : n < 0
  · exact Or.inl ⟨sdK_no h0, sdK_no h0⟩
  · obtain ⟨j, rfl⟩ : ∃ j : Nat, n = (j : Int) := ⟨n.toNat, by omega⟩
    cases hx : v[j]? with
    | none =>
      refine Or.inl ⟨?_, ?_⟩
      · unfold sdK; rw [if_neg h0, Int.toNat_natCast, hx]
      · unfold sdK; rw [if_neg h0, Int.toNat_natCast, List.getElem?_map, hx]; rfl
    | some x =>
      have hx2 : (v.map (shX st ha))[j]? = some (shX st ha x) := by rw [List.getElem?_map, hx]; rfl
      rw [sdK_at hx, sdK_at hx2, shX_r]
      cases hr : x.r with
      | true => exact Or.inl ⟨rfl, rfl⟩
      | false => exact Or.inr (key_shift hr ((shB_iff.1 h).2.2 x (List.mem_of_getElem? hx)))
theorem mf_up {a : List Nt} (h : shB a 7 12 = true) : mfZ a (shL a 7 12) = -1 := by
  unfold shL
  rw [if_pos h]
  refine mfF_none fun t _ => ?_
  rcases sd_shift (t := t) h with ⟨g1, _⟩ | g
  · exact dk_no (Or.inl g1)
  · rw [g]; exact dk_up _

/- Canons. -/
def rsN (d : Int) : Nt := ⟨true, 0, 0, 0, d, false⟩
def caB (v : List Nt) (d st ha : Int) : Bool := shB v st ha && (inB d 1 768 && decide (v.length ≠ 60))
def caL (v : List Nt) (d st ha : Int) : List Nt := if caB v d st ha = true then rsN d :: shL v st ha else []
theorem caB_iff {v : List Nt} {d st ha : Int} : caB v d st ha = true ↔ shB v st ha = true ∧ (1 ≤ d ∧ d ≤ 768) ∧ v.length ≠ 60 := by
  unfold caB
  rw [Bool.and_eq_true, Bool.and_eq_true, inB_iff]
  simp
theorem ca_is {v : List Nt} {d st ha : Int} (h : caB v d st ha = true) : caL v d st ha = rsN d :: v.map (shX st ha) := by
  unfold caL shL
  rw [if_pos h, if_pos (caB_iff.1 h).1]
theorem ca_no {v : List Nt} {d st ha : Int} (h : caB v d st ha = false) : caL v d st ha = [] := by
  unfold caL
  rw [if_neg (by rw [h]; decide)]
theorem ca_vo {v : List Nt} {d st ha : Int} (h : caB v d st ha = true) : voB (caL v d st ha) = true := by
  obtain ⟨h1, h2, h3⟩ := caB_iff.1 h
  have hv := voB_iff.1 (sh_vo h1)
  have hl := (voB_iff.1 (shB_iff.1 h1).1).2
  rw [ca_is h, voB_iff]
  refine ⟨?_, by rw [List.length_cons, List.length_map]; omega⟩
  have hn : nvB (rsN d) = true := by
    rw [nvB_iff]
    exact ⟨fun _ => ⟨rfl, rfl, rfl, rfl⟩, h2, show pvB 0 0 0 = true by decide⟩
  cases hm : v.map (shX st ha) with
  | nil => exact tieB_one.2 ⟨hn, rfl⟩
  | cons x l =>
    rw [tieB_cons]
    rw [hm] at hv
    exact ⟨hn, rfl, hv.1⟩
theorem ca_len {v : List Nt} {d st ha : Int} (h : caB v d st ha = true) : (caL v d st ha).length = v.length + 1 := by rw [ca_is h]; simp
theorem ca_sum {v : List Nt} {d st ha : Int} (h : caB v d st ha = true) : sumT (caL v d st ha) = sumT v + d := by
  rw [ca_is h]
  show d + sumT (v.map (shX st ha)) = _
  rw [sh_sum]
  omega
/-- The canon of a voice as long after as it lasts has no fault with it. -/
theorem ca_late {v : List Nt} {st ha d : Int} (h : caB v d st ha = true) (hd : sumT v ≤ d) : mfZ v (caL v d st ha) = -1 := by
  refine mfF_none fun t ht => ?_
  obtain ⟨hv, hc, h0, _, _⟩ := mt_mem ht
  by_cases hlt : t < d
  · refine dk_no (Or.inr ?_)
    have hx : (caL v d st ha)[0]? = some (rsN d) := by rw [ca_is h]; rfl
    have e : naZ (caL v d st ha) t = (0 : Nat) := na_at hc hx (by rw [sum_zero16]; exact h0) (by rw [sum_zero16]; show t < 0 + d; omega)
    unfold sdZ
    rw [e, sdK_at hx]
    rfl
  · exact dk_no (Or.inl (sd_end (by omega)))

/- Canons are found. -/
open Classical in
/-- What IsCanon answers. -/
noncomputable def icB (v s : List Nt) : Bool := decide (∃ d st ha, caB v d st ha = true ∧ caL v d st ha = s)
theorem icB_iff {v s : List Nt} : icB v s = true ↔ ∃ d st ha, caB v d st ha = true ∧ caL v d st ha = s := by
  unfold icB
  simp
theorem ic_ca {v : List Nt} {d st ha : Int} (h : caB v d st ha = true) : icB v (caL v d st ha) = true := icB_iff.2 ⟨d, st, ha, h, rfl⟩
theorem ic_shape {v s : List Nt} (h : icB v s = true) : voB v = true ∧ voB s = true ∧ s.length = v.length + 1 ∧ ∃ d, s[0]? = some (rsN d) ∧ sumT s = sumT v + d := by
  obtain ⟨d, st, ha, h1, rfl⟩ := icB_iff.1 h
  exact ⟨(shB_iff.1 (caB_iff.1 h1).1).1, ca_vo h1, ca_len h1, d, by rw [ca_is h1]; rfl, ca_sum h1⟩
theorem ic_self (v : List Nt) : icB v v = false := by
  rw [← Bool.not_eq_true]
  intro h
  have := (ic_shape h).2.2.1
  omega
/-- With a note over which the moved one stands, the interval is known. -/
theorem ic_note {v s : List Nt} {k : Nat} {x z : Nt} (hx : v[k]? = some x) (hz : s[k + 1]? = some z) (hr : x.r = false) :
    icB v s = true ↔ ofB x.s x.a x.o z.s z.a z.o = true ∧ ∃ d, caB v d (dpZ x.s x.o z.s z.o) (keyZ z.s z.a z.o - keyZ x.s x.a x.o) = true ∧ caL v d (dpZ x.s x.o z.s z.o) (keyZ z.s z.a z.o - keyZ x.s x.a x.o) = s := by
  constructor
  · intro h
    obtain ⟨d, st, ha, h1, rfl⟩ := icB_iff.1 h
    have hz2 : z = shX st ha x := by
      rw [ca_is h1, List.getElem?_cons_succ, List.getElem?_map, hx] at hz
      exact (Option.some.inj hz).symm
    have ho := (shB_iff.1 (caB_iff.1 h1).1).2.2 x (List.mem_of_getElem? hx)
    have h2 := ad_of (shO_note hr ho) rfl rfl rfl
    rw [shX_note hr] at hz2
    subst hz2
    dsimp only
    refine ⟨h2.1, d, ?_⟩
    rw [h2.2.1, h2.2.2]
    exact ⟨h1, rfl⟩
  · rintro ⟨_, d, h1, h2⟩
    exact icB_iff.2 ⟨d, _, _, h1, h2⟩
/-- Without such a note the voice has no notes, and any interval is as good as none. -/
theorem ic_none {v s : List Nt} (hn : ∀ (k : Nat) (x z : Nt), v[k]? = some x → s[k + 1]? = some z → x.r = true ∨ z.r = true) :
    icB v s = true ↔ ∃ d, caB v d 0 0 = true ∧ caL v d 0 0 = s := by
  constructor
  · intro h
    obtain ⟨d, st, ha, h1, rfl⟩ := icB_iff.1 h
    have hall : ∀ x ∈ v, x.r = true := fun x hx => by
      obtain ⟨k, hk, rfl⟩ := List.mem_iff_getElem.1 hx
      have e1 : v[k]? = some v[k] := List.getElem?_eq_getElem hk
      have e2 : (caL v d st ha)[k + 1]? = some (shX st ha v[k]) := by rw [ca_is h1, List.getElem?_cons_succ, List.getElem?_map, e1]; rfl
      rcases hn k _ _ e1 e2 with g | g
      · exact g
      · rwa [shX_r] at g
    have hsame : ∀ st ha : Int, v.map (shX st ha) = v := fun st ha => by
      have : ∀ x ∈ v, shX st ha x = id x := fun x hx => shX_rest (hall x hx)
      rw [List.map_congr_left this, List.map_id]
    obtain ⟨g1, g2, g3⟩ := caB_iff.1 h1
    have h2 : caB v d 0 0 = true := caB_iff.2 ⟨shB_iff.2 ⟨(shB_iff.1 g1).1, by decide, fun x hx => by unfold shO; rw [hall x hx]; rfl⟩, g2, g3⟩
    refine ⟨d, h2, ?_⟩
    rw [ca_is h2, ca_is h1, hsame, hsame]
  · rintro ⟨d, h1, h2⟩
    exact icB_iff.2 ⟨d, 0, 0, h1, h2⟩

/- Good delays. -/
def gdK (v : List Nt) (st ha d : Int) : Bool := caB v d st ha && decide (mfZ v (caL v d st ha) = -1)
/-- The good ones among the first n multiples of the grid. -/
def cyL (v : List Nt) (g st ha : Int) (n : Nat) : List Int := ((List.range n).map fun (i : Nat) => g * ((i : Int) + 1)).filter (gdK v st ha)
theorem cyL_up (v : List Nt) (g st ha : Int) (n : Nat) : cyL v g st ha (n + 1) = cyL v g st ha n ++ if gdK v st ha (g * ((n : Int) + 1)) = true then [g * ((n : Int) + 1)] else [] := by
  unfold cyL
  rw [List.range_succ, List.map_append, List.filter_append]
  congr 1
  show List.filter _ [g * ((n : Int) + 1)] = _
  by_cases h : gdK v st ha (g * ((n : Int) + 1)) = true
  · rw [if_pos h, List.filter_cons, if_pos h]; rfl
  · rw [if_neg h, List.filter_cons, if_neg h]; rfl
/-- How many multiples are looked at. -/
def cyN (v : List Nt) (g : Int) : Nat := if voB v = true ∧ 1 ≤ g ∧ g ≤ 768 then ((min (sumT v - 1) 768) / g).toNat else 0
def cdW (v : List Nt) (g st ha : Int) : List Int := cyL v g st ha (cyN v g)
theorem cy_more {v : List Nt} {g : Int} {n : Nat} (hv : voB v = true) (hg : 1 ≤ g) (hg2 : g ≤ 768) : n < cyN v g ↔ g * ((n : Int) + 1) < sumT v ∧ g * ((n : Int) + 1) ≤ 768 := by
  unfold cyN
  rw [if_pos ⟨hv, hg, hg2⟩]
  obtain ⟨m, hm⟩ : ∃ m, min (sumT v - 1) 768 = m := ⟨_, rfl⟩
  rw [hm]
  have hs := (sum_all16 hv).1
  have h1 : n < (m / g).toNat ↔ (n : Int) + 1 ≤ m / g := by omega
  rw [h1, Int.le_ediv_iff_mul_le (by omega), Int.mul_comm]
  omega
theorem cy_len (v : List Nt) (g st ha : Int) (n : Nat) : (cyL v g st ha n).length ≤ n := by
  unfold cyL
  refine Nat.le_trans (List.length_filter_le _ _) ?_
  rw [List.length_map, List.length_range]
  exact Nat.le_refl _
theorem cyN_le (v : List Nt) (g : Int) : cyN v g ≤ 768 := by
  unfold cyN
  split
  · rename_i h
    have h1 : min (sumT v - 1) 768 / g ≤ 768 := by
      by_cases h0 : 0 ≤ min (sumT v - 1) 768
      · exact Int.le_trans (Int.ediv_le_self _ h0) (by omega)
      · have := Int.ediv_neg_of_neg_of_pos (a := min (sumT v - 1) 768) (b := g) (by omega) (by omega)
        omega
    omega
  · omega
end Go.Proofs.YtmkhpafcgobfhaaDoor
