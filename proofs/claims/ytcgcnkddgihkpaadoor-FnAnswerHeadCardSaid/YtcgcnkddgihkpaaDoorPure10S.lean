/- Plain facts for chapter 10 in the program: sets of classes as numbers, the kinds as sets, the name of a chord by its set. -/
import Derived.Test.YtcgcnkddgihkpaaDoorPure10
namespace Go.Proofs.YtcgcnkddgihkpaaDoor
set_option linter.unusedSimpArgs false
set_option linter.unusedVariables false
set_option maxRecDepth 8000

/- Sets. -/
/-- The classes of the first k pitches, a bit each. -/
def bmN (l : List Pt) (k : Nat) : Nat := (l.take k).foldl (fun m x => m ||| 2 ^ (cls x).toNat) 0
theorem bmN_zero (l : List Pt) : bmN l 0 = 0 := by unfold bmN; rw [List.take_zero]; rfl
theorem bmN_up {l : List Pt} {k : Nat} {x : Pt} (hx : l[k]? = some x) : bmN l (k + 1) = bmN l k ||| 2 ^ (cls x).toNat := by
  unfold bmN
  rw [List.take_add_one, hx, List.foldl_append]; rfl
theorem fold_bit (l : List Pt) : ∀ m j : Nat, (l.foldl (fun m x => m ||| 2 ^ (cls x).toNat) m).testBit j = (m.testBit j || l.any fun x => cls x == (j : Int)) := by
  induction l with
  | nil => intro m j; simp
  | cons x l ih =>
    intro m j
    rw [List.foldl_cons, ih, Nat.testBit_or, Nat.testBit_two_pow, List.any_cons, Bool.or_assoc]
    congr 2
    rw [Bool.eq_iff_iff]
    have := cls_bd x
    simp
    omega
theorem bmN_bit (l : List Pt) (j : Nat) : (bmN l l.length).testBit j = kcB l j := by
  unfold bmN kcB
  rw [List.take_length, fold_bit, Nat.zero_testBit, Bool.false_or]
theorem bmN_lt (l : List Pt) (k : Nat) : bmN l k < 4096 := by
  refine Nat.lt_pow_two_of_testBit (n := 12) _ fun j hj => ?_
  unfold bmN
  rw [fold_bit, Nat.zero_testBit, Bool.false_or, ← Bool.not_eq_true, List.any_eq_true]
  rintro ⟨x, _, hx⟩
  have := cls_bd x
  simp at hx
  omega
/-- The classes of a set, ascending. -/
def asN (m : Nat) : List Nat := (List.range 12).filter m.testBit
def asL (m : Nat) : List Int := (asN m).map fun (c : Nat) => (c : Int)
theorem asL_mk (l : List Pt) : asL (bmN l l.length) = kcF l 12 := by
  unfold asL asN kcF
  rw [show (bmN l l.length).testBit = kcB l from funext (bmN_bit l)]
theorem asL_zero : asL 0 = [] := by decide
theorem asL_len (m : Nat) : (asL m).length ≤ 12 := by
  unfold asL asN
  rw [List.length_map]
  exact Nat.le_trans (List.length_filter_le _ _) (by rw [List.length_range]; exact Nat.le_refl _)
/-- The least one; the library's table of places. -/
def tzN (m : Nat) : Nat := (asN m).headD 16
def debT : List Nat := [0, 1, 28, 2, 29, 14, 24, 3, 30, 22, 20, 15, 25, 17, 4, 8, 31, 27, 13, 23, 21, 19, 16, 7, 26, 12, 18, 6, 11, 5, 10, 9]
def debX (m : Nat) : Nat := (m &&& (65536 - m)) * 125613361 % 4294967296 / 134217728
def bitChk (m : Nat) : Bool := m == 0 || (asN m == tzN m :: asN (m &&& (m - 1)) && (Nat.blt (tzN m) 12 && (Nat.blt (m &&& (m - 1)) m && (Nat.blt (debX m) 32 && debT.getD (debX m) 99 == tzN m))))
theorem bit_all : ((List.range 64).all fun a => (List.range 64).all fun b => bitChk (64 * a + b)) = true := by decide +kernel
theorem bit_at {m : Nat} (h0 : m ≠ 0) (h : m < 4096) : asN m = tzN m :: asN (m &&& (m - 1)) ∧ tzN m < 12 ∧ (m &&& (m - 1)) < m ∧ debX m < 32 ∧ debT.getD (debX m) 99 = tzN m := by
  have h2 := List.all_eq_true.1 (List.all_eq_true.1 bit_all (m / 64) (List.mem_range.2 (by omega))) (m % 64) (List.mem_range.2 (by omega))
  rw [show 64 * (m / 64) + m % 64 = m by omega] at h2
  unfold bitChk at h2
  rw [show (m == 0) = false by simpa using h0, Bool.false_or] at h2
  simp only [Bool.and_eq_true, beq_iff_eq, Nat.blt_eq] at h2
  exact h2
theorem asL_up {m : Nat} (h0 : m ≠ 0) (h : m < 4096) : asL m = (tzN m : Int) :: asL (m &&& (m - 1)) := by
  unfold asL
  rw [(bit_at h0 h).1]; rfl

/- How far above a class. -/
def abN (m d : Nat) : Nat := (m / 2 ^ d ||| m * 2 ^ (12 - d) % 65536) &&& 4095
theorem abN_bit {m d j : Nat} (hm : m < 4096) (hd : d < 12) : (abN m d).testBit j = (decide (j < 12) && m.testBit ((j + d) % 12)) := by
  unfold abN
  rw [Nat.testBit_and, Nat.testBit_or, Nat.testBit_div_two_pow, show (65536 : Nat) = 2 ^ 16 from rfl, Nat.testBit_mod_two_pow, Nat.testBit_mul_two_pow, show (4095 : Nat) = 2 ^ 12 - 1 from rfl, Nat.testBit_two_pow_sub_one]
  have hbig : ∀ i, 12 ≤ i → m.testBit i = false := fun i hi => Nat.testBit_lt_two_pow (Nat.lt_of_lt_of_le (show m < 2 ^ 12 from hm) (Nat.pow_le_pow_right (by omega) hi))
  by_cases hj : j < 12
  · rw [decide_eq_true hj, Bool.and_true, Bool.true_and]
    by_cases hs : j + d < 12
    · rw [Nat.mod_eq_of_lt hs, decide_eq_false (show ¬ 12 - d ≤ j by omega), Bool.false_and, Bool.and_false, Bool.or_false]
    · rw [hbig (j + d) (by omega), Bool.false_or, decide_eq_true (show j < 16 by omega), decide_eq_true (show 12 - d ≤ j by omega), Bool.true_and, Bool.true_and]
      congr 1
      omega
  · rw [decide_eq_false hj, Bool.and_false, Bool.false_and]
theorem abN_lt (m d : Nat) : abN m d < 4096 := by
  unfold abN
  exact Nat.lt_of_le_of_lt Nat.and_le_right (by omega)

/- The kinds as sets. -/
def kinT : List Nat := [145, 137, 73, 273, 1169, 2193, 1161, 1097, 585]
def kdZ (m : Nat) : Int := if m = 145 then 0 else if m = 137 then 1 else if m = 73 then 2 else if m = 273 then 3 else if m = 1169 then 4 else if m = 2193 then 5 else if m = 1161 then 6 else if m = 1097 then 7 else if m = 585 then 8 else -1
theorem nine {k : Nat} (h : k < 9) : k = 0 ∨ k = 1 ∨ k = 2 ∨ k = 3 ∨ k = 4 ∨ k = 5 ∨ k = 6 ∨ k = 7 ∨ k = 8 := by omega
theorem kd_hit {m k : Nat} (h9 : k < 9) (h : kinT.getD k 0 = m) : kdZ m = k := by
  subst h
  rcases nine h9 with rfl | rfl | rfl | rfl | rfl | rfl | rfl | rfl | rfl <;> rfl
theorem kd_miss {m : Nat} (h : ∀ k : Nat, k < 9 → kinT.getD k 0 ≠ m) : kdZ m = -1 := by
  have h0 := h 0 (by omega)
  have h1 := h 1 (by omega)
  have h2 := h 2 (by omega)
  have h3 := h 3 (by omega)
  have h4 := h 4 (by omega)
  have h5 := h 5 (by omega)
  have h6 := h 6 (by omega)
  have h7 := h 7 (by omega)
  have h8 := h 8 (by omega)
  simp [kinT] at h0 h1 h2 h3 h4 h5 h6 h7 h8
  unfold kdZ
  rw [if_neg (by omega), if_neg (by omega), if_neg (by omega), if_neg (by omega), if_neg (by omega), if_neg (by omega), if_neg (by omega), if_neg (by omega), if_neg (by omega)]
theorem kd_bd (m : Nat) : -1 ≤ kdZ m ∧ kdZ m ≤ 8 := by unfold kdZ; (repeat' split) <;> omega
theorem kd_of {m k : Nat} (h9 : k < 9) (h : kdZ m = k) : kinT.getD k 0 = m := by
  by_cases hx : ∃ j, j < 9 ∧ kinT.getD j 0 = m
  · obtain ⟨j, hj, e⟩ := hx
    have := kd_hit hj e
    have : j = k := by omega
    subst this
    exact e
  · have := kd_miss (m := m) fun j hj e => hx ⟨j, hj, e⟩
    omega
/-- The half tones of a kind are those of its intervals. -/
theorem kin_tones {k : Nat} (h9 : k < 9) : asL (kinT.getD k 0) = (toneL k).map Prod.snd := by
  rcases nine h9 with rfl | rfl | rfl | rfl | rfl | rfl | rfl | rfl | rfl <;> decide
theorem kin_lt {k : Nat} (h9 : k < 9) : kinT.getD k 0 < 4096 := by
  rcases nine h9 with rfl | rfl | rfl | rfl | rfl | rfl | rfl | rfl | rfl <;> decide
theorem asL_mem {m j : Nat} (hj : j < 12) : ((j : Int) ∈ asL m) ↔ m.testBit j = true := by
  unfold asL asN
  simp only [List.mem_map, List.mem_filter, List.mem_range]
  constructor
  · rintro ⟨a, ⟨_, h⟩, e⟩
    have : a = j := by omega
    subst this; exact h
  · intro h; exact ⟨j, ⟨hj, h⟩, rfl⟩
theorem kin_bit {k j : Nat} (h9 : k < 9) (hj : j < 12) : (kinT.getD k 0).testBit j = true ↔ ∃ v, v ∈ toneL k ∧ v.2 = j := by
  rw [← asL_mem hj, kin_tones h9, List.mem_map]

/- The name by the set. -/
theorem cls_r4 (x : Pt) : cls (r4 x) = (keyZ x.s x.a 4 + 12) % 12 := rfl
theorem cls_tone {x : Pt} {v : Int × Int} (h : adT? x v = true) : cls (adT x v) = (cls x + v.2) % 12 := by
  have := adT_key h
  unfold cls
  omega
theorem kcB_chord {x : Pt} {k : Nat} (h9 : k < 9) (h : chB x k = true) {j : Nat} (hj : j < 12) : kcB (chL x k) ((j + (cls x).toNat) % 12) = (kinT.getD k 0).testBit j := by
  have hc := cls_bd x
  have h3 := (chB_iff.1 h).2.2
  rw [Bool.eq_iff_iff, kin_bit h9 hj]
  unfold kcB
  rw [List.any_eq_true]
  constructor
  · rintro ⟨y, hy, e⟩
    rw [chL_yes h, List.mem_map] at hy
    obtain ⟨v, hv, rfl⟩ := hy
    have hb := toneL_bd hv
    refine ⟨v, hv, ?_⟩
    rw [beq_iff_eq, cls_tone (h3 v hv)] at e
    omega
  · rintro ⟨v, hv, e⟩
    refine ⟨adT x v, ?_, ?_⟩
    · rw [chL_yes h]; exact List.mem_map_of_mem hv
    · rw [beq_iff_eq, cls_tone (h3 v hv), e]
      omega
theorem kc_have {u v : List Pt} (hu : u.all pvP = true) (hv : v.all pvP = true) (h : u.all (hasB v) = true) (c : Nat) (hc : kcB u c = true) : kcB v c = true := by
  unfold kcB at hc ⊢
  rw [List.any_eq_true] at hc ⊢
  obtain ⟨x, hx, hxc⟩ := hc
  obtain ⟨y, hy, hs, ha⟩ := hasB_iff.1 (List.all_eq_true.1 h x hx)
  refine ⟨y, hy, ?_⟩
  rw [cls_same (List.all_eq_true.1 hv y hy) (List.all_eq_true.1 hu x hx) hs ha]
  exact hxc
/-- The set of a list, seen from a root. -/
def seN (l : List Pt) (x : Pt) : Nat := abN (bmN l l.length) (cls (r4 x)).toNat
theorem se_bit (l : List Pt) (x : Pt) {j : Nat} (hj : j < 12) : (seN l x).testBit j = kcB l ((j + (cls (r4 x)).toNat) % 12) := by
  have hc := cls_bd (r4 x)
  unfold seN
  rw [abN_bit (bmN_lt _ _) (by omega), decide_eq_true hj, Bool.true_and, bmN_bit]
theorem ok_kind {l : List Pt} {x : Pt} {k : Int} (hl : l.all pvP = true) (h : okB l x k = true) : kdZ (seN l x) = k := by
  unfold okB at h
  simp only [Bool.and_eq_true] at h
  obtain ⟨hb, h1, h2⟩ := h
  have hk := (chB_iff.1 hb).2.1
  obtain ⟨k', rfl⟩ : ∃ n : Nat, k = n := ⟨k.toNat, by omega⟩
  have h9 : k' < 9 := by omega
  refine kd_hit h9 (Nat.eq_of_testBit_eq fun j => ?_)
  by_cases hj : j < 12
  · rw [se_bit l x hj, ← kcB_chord h9 hb hj, Bool.eq_iff_iff]
    exact ⟨kc_have chL_all hl h2 _, kc_have hl chL_all h1 _⟩
  · have hge : 2 ^ 12 ≤ 2 ^ j := Nat.pow_le_pow_right (by omega) (by omega)
    have b1 : (kinT.getD k' 0).testBit j = false := Nat.testBit_lt_two_pow (Nat.lt_of_lt_of_le (kin_lt h9) hge)
    have b2 : (seN l x).testBit j = false := Nat.testBit_lt_two_pow (Nat.lt_of_lt_of_le (abN_lt _ _) hge)
    rw [b1, b2]
theorem tone_inj {k : Int} (hk : 0 ≤ k ∧ k ≤ 8) {u v : Int × Int} (hu : u ∈ toneL k) (hv : v ∈ toneL k) (h : u.2 = v.2) : u = v := by
  obtain ⟨i, hi, rfl⟩ := List.getElem_of_mem hu
  obtain ⟨j, hj, rfl⟩ := List.getElem_of_mem hv
  rcases Nat.lt_trichotomy i j with hlt | rfl | hlt
  · have := at_up hk hlt (List.getElem?_eq_getElem hi) (List.getElem?_eq_getElem hj)
    omega
  · rfl
  · have := at_up hk hlt (List.getElem?_eq_getElem hj) (List.getElem?_eq_getElem hi)
    omega
theorem ok_of {l : List Pt} {x : Pt} {k : Int} (hl : l.all pvP = true) (he : kdZ (seN l x) = k) (hb : chB (r4 x) k = true) (h1 : l.all (hasB (chL (r4 x) k)) = true) : okB l x k = true := by
  have hk := (chB_iff.1 hb).2.1
  have h3 := (chB_iff.1 hb).2.2
  unfold okB
  rw [hb, h1, Bool.true_and, Bool.true_and, List.all_eq_true]
  obtain ⟨k', rfl⟩ : ∃ n : Nat, k = n := ⟨k.toNat, by omega⟩
  have h9 : k' < 9 := by omega
  intro y hy
  have hc := cls_bd (r4 x)
  rw [chL_yes hb, List.mem_map] at hy
  obtain ⟨v, hv, rfl⟩ := hy
  have hv2 := toneL_bd hv
  obtain ⟨j, hj⟩ : ∃ j : Nat, v.2 = j := ⟨v.2.toNat, by omega⟩
  have hj12 : j < 12 := by omega
  have b1 : (kinT.getD k' 0).testBit j = true := (kin_bit h9 hj12).2 ⟨v, hv, hj⟩
  rw [kd_of h9 he, se_bit l x hj12] at b1
  unfold kcB at b1
  obtain ⟨p, hp, e⟩ := List.any_eq_true.1 b1
  rw [beq_iff_eq] at e
  obtain ⟨z, hz, zs, za⟩ := hasB_iff.1 (List.all_eq_true.1 h1 p hp)
  have hzv : pvP z = true := List.all_eq_true.1 chL_all z hz
  have e2 := cls_same hzv (List.all_eq_true.1 hl p hp) zs za
  rw [chL_yes hb, List.mem_map] at hz
  obtain ⟨u, hu, rfl⟩ := hz
  rw [cls_tone (h3 u hu), e] at e2
  have hu2 := toneL_bd hu
  have : u = v := tone_inj hk hu hv (by omega)
  subst this
  exact hasB_iff.2 ⟨p, hp, zs.symm, za.symm⟩

/-- The number of the first tone with the class of y. -/
def fsN (t : List Pt) (y : Pt) (j : Nat) : Int := match (t.drop j).findIdx? (fun x => clB x y) with
  | some i => (j + i : Nat)
  | none => -1
theorem fs_end {t : List Pt} {y : Pt} {j : Nat} (h : t.length ≤ j) : fsN t y j = -1 := by unfold fsN; rw [List.drop_eq_nil_of_le h]; rfl
theorem fs_hit {t : List Pt} {y x : Pt} {j : Nat} (hx : t[j]? = some x) (h : clB x y = true) : fsN t y j = j := by
  obtain ⟨hj, e⟩ := List.getElem?_eq_some_iff.1 hx
  unfold fsN
  rw [List.drop_eq_getElem_cons hj, e, List.findIdx?_cons, h]
  rfl
theorem fs_miss {t : List Pt} {y x : Pt} {j : Nat} (hx : t[j]? = some x) (h : clB x y = false) : fsN t y j = fsN t y (j + 1) := by
  obtain ⟨hj, e⟩ := List.getElem?_eq_some_iff.1 hx
  unfold fsN
  rw [List.drop_eq_getElem_cons hj, e, List.findIdx?_cons, h]
  cases (t.drop (j + 1)).findIdx? (fun x => clB x y) with
  | none => rfl
  | some i => simp only [Option.map, cond_false, Bool.false_eq_true, if_false]; congr 1; omega
theorem fs_none {t : List Pt} {y : Pt} : fsN t y 0 = -1 ↔ hasB t y = false := by
  unfold fsN hasB
  rw [List.drop_zero]
  cases h : t.findIdx? (fun x => clB x y) with
  | none =>
    rw [List.findIdx?_eq_none_iff] at h
    simp only [true_iff]
    rw [← Bool.not_eq_true, List.any_eq_true]
    rintro ⟨x, hx, e⟩
    rw [h x hx] at e
    cases e
  | some i =>
    obtain ⟨hi, hp, _⟩ := List.findIdx?_eq_some_iff_getElem.1 h
    have : (t.any fun x => clB x y) = true := List.any_eq_true.2 ⟨_, List.getElem_mem hi, hp⟩
    rw [this]
    constructor
    · intro e; dsimp only at e; omega
    · intro e; cases e
theorem fs_has {t : List Pt} {y : Pt} (h : hasB t y = true) : ∃ i : Nat, i < t.length ∧ fsN t y 0 = i ∧ clB (t.getD i ⟨0, 0, 0⟩) y = true := by
  unfold fsN hasB at *
  rw [List.drop_zero]
  cases h2 : t.findIdx? (fun x => clB x y) with
  | none =>
    rw [List.findIdx?_eq_none_iff] at h2
    obtain ⟨x, hx, e⟩ := List.any_eq_true.1 h
    rw [h2 x hx] at e
    cases e
  | some i =>
    obtain ⟨hi, hp, _⟩ := List.findIdx?_eq_some_iff_getElem.1 h2
    exact ⟨i, hi, by simp, by rw [getD_of (List.getElem?_eq_getElem hi)]; exact hp⟩
/-- In a chord the first one is the only one. -/
theorem fs_chord {x y : Pt} {k : Int} (hb : chB x k = true) (h : hasB (chL x k) y = true) : fsN (chL x k) y 0 = atZ (chL x k) y := by
  obtain ⟨i, hi, e, hc⟩ := fs_has h
  rw [e]
  symm
  refine at_is hi hc fun j hj hne => ?_
  obtain ⟨a, ha⟩ : ∃ a, (chL x k)[i]? = some a := ⟨_, List.getElem?_eq_getElem hi⟩
  obtain ⟨b, hb2⟩ : ∃ b, (chL x k)[j]? = some b := ⟨_, List.getElem?_eq_getElem hj⟩
  rw [getD_of ha] at hc
  rw [getD_of hb2]
  obtain ⟨u, hu, _, rfl, _⟩ := chL_of hb ha
  obtain ⟨v, hv, _, rfl, _⟩ := chL_of hb hb2
  have hp := (chB_iff.1 hb).1
  rw [← Bool.not_eq_true, clB_iff]
  rintro ⟨g1, _⟩
  have g2 := (clB_iff.1 hc).1
  have a1 := toneL_at hu
  have a2 := toneL_at hv
  have b1 : (adT x u).s = (x.s + u.1) % 7 := congrArg Prod.fst (adT_cl (v := u) hp)
  have b2 : (adT x v).s = (x.s + v.1) % 7 := congrArg Prod.fst (adT_cl (v := v) hp)
  rw [← g2, b1, b2, a1.1, a2.1] at g1
  omega

/-- What one root gives. -/
def naR (l : List Pt) (x : Pt) (k : Int) : Option Nam := if chB (r4 x) k && l.all (hasB (chL (r4 x) k)) then some ⟨r4 x, k, fsN (chL (r4 x) k) (l.getD (lowN l l.length) ⟨0, 0, 0⟩) 0⟩ else none
theorem ki_no {l : List Pt} {x : Pt} {k : Int} (h : okB l x k = false) : kiF l x k = none := by
  unfold kiF; rw [h]; rfl
theorem ki_only {l : List Pt} {x : Pt} (hl : l.all pvP = true) : ∀ ks : List Int, ks.findSome? (kiF l x) = if kdZ (seN l x) ∈ ks then kiF l x (kdZ (seN l x)) else none
  | [] => rfl
  | k :: ks => by
    rw [List.findSome?_cons, ki_only hl ks]
    cases h : okB l x k
    · rw [ki_no h]
      dsimp only
      by_cases e : kdZ (seN l x) = k
      · rw [e, if_pos List.mem_cons_self, ki_no h]
        split <;> rfl
      · simp [e]
    · have e := ok_kind hl h
      rw [e, if_pos List.mem_cons_self]
      have : ∃ m, kiF l x k = some m := by unfold kiF; rw [h]; exact ⟨_, rfl⟩
      obtain ⟨m, hm⟩ := this
      rw [hm]
theorem kinds_mem {k : Int} : k ∈ kindsL ↔ 0 ≤ k ∧ k ≤ 8 := by
  unfold kindsL
  simp
  omega
theorem ro_is {l : List Pt} {x : Pt} (hl : l.all pvP = true) (hne : 0 < l.length) : roF l x = naR l x (kdZ (seN l x)) := by
  unfold roF
  rw [ki_only hl]
  obtain ⟨k, hk⟩ : ∃ k, kdZ (seN l x) = k := ⟨_, rfl⟩
  rw [hk]
  cases hb : chB (r4 x) k
  · unfold naR kiF okB
    rw [hb]
    simp
  · have hk8 := (chB_iff.1 hb).2.1
    rw [if_pos (kinds_mem.2 hk8)]
    unfold naR
    rw [hb, Bool.true_and]
    cases h1 : l.all (hasB (chL (r4 x) k))
    · unfold kiF okB
      rw [h1]
      simp
    · have ho := ok_of hl hk hb h1
      unfold kiF
      rw [ho, if_pos rfl, if_pos rfl]
      have hlow := lowN_lt l l.length hne
      obtain ⟨y, hy⟩ : ∃ y, l[lowN l l.length]? = some y := ⟨_, List.getElem?_eq_getElem hlow⟩
      rw [getD_of hy, fs_chord hb (List.all_eq_true.1 h1 y (List.mem_of_getElem? hy))]
end Go.Proofs.YtcgcnkddgihkpaaDoor
