/- Plain facts for the promises of chapter 15: lines with a number have no fault, a greater number is a later line, wider bounds have not fewer lines. -/
import Derived.Test.YtieoobanpllmgaaDoorPure15
namespace Go.Proofs.YtieoobanpllmgaaDoor
set_option linter.unusedSimpArgs false
set_option linter.unusedVariables false
set_option maxRecDepth 8000

/- The tones of a key ascend. -/
theorem tn_chk : (List.range 15).all (fun i => (List.range 62).all fun p => decide (kyP (tnP ((i : Int) - 7) p) < kyP (tnP ((i : Int) - 7) (p + 1)))) = true := by decide +kernel
theorem tn_step {f : Int} {p : Nat} (hf : keyB f = true) (hp : p < 62) : kyP (tnP f p) < kyP (tnP f (p + 1)) := by
  have hb : -7 ≤ f ∧ f ≤ 7 := inB_iff.1 hf
  have h1 := List.all_eq_true.1 tn_chk (f + 7).toNat (List.mem_range.2 (by omega))
  have h2 := List.all_eq_true.1 h1 p (List.mem_range.2 hp)
  rw [show (((f + 7).toNat : Nat) : Int) - 7 = f by omega] at h2
  exact of_decide_eq_true h2
theorem tn_mono {f : Int} (hf : keyB f = true) {p : Nat} : ∀ {d : Nat}, p + d + 1 < 63 → kyP (tnP f p) < kyP (tnP f (p + d + 1))
  | 0, h => tn_step hf (by omega)
  | d + 1, h => by
    have h1 := tn_mono hf (p := p) (d := d) (by omega)
    have h2 := tn_step hf (p := p + d + 1) (by omega)
    rw [show p + (d + 1) + 1 = p + d + 1 + 1 by omega]
    omega
def AscK (T : List Pt) : Prop := T.Pairwise fun a b => kyP a < kyP b
theorem tkN_mem {f key : Int} {n : Nat} {x : Pt} (h : x ∈ tkN f key n) : ∃ p, p < n ∧ x = tnP f p ∧ kyP x = key := by
  obtain ⟨p, hp, h⟩ := List.mem_flatMap.1 h
  have hp := List.mem_range.1 hp
  split at h
  · rename_i hk
    simp at h
    subst h
    exact ⟨p, hp, rfl, hk⟩
  · cases h
theorem tkN_asc {f key : Int} (hf : keyB f = true) : ∀ n, n ≤ 63 → AscK (tkN f key n)
  | 0, _ => by simp [AscK, tkN]
  | n + 1, hn => by
    rw [tkN_up]
    refine List.pairwise_append.2 ⟨tkN_asc hf n (by omega), by split <;> simp, fun a ha b hb => ?_⟩
    split at hb
    · rename_i hk
      simp at hb
      subst hb
      obtain ⟨p, hp, rfl, hk2⟩ := tkN_mem ha
      have := tn_mono hf (p := p) (d := n - p - 1) (by omega)
      rwa [show p + (n - p - 1) + 1 = n by omega] at this
    · cases hb
theorem tnL_asc {f lo : Int} (hf : keyB f = true) (h0 : 0 ≤ lo) : ∀ m, AscK (tnL f lo m)
  | 0 => by simp [AscK, tnL]
  | m + 1 => by
    rw [tnL_up]
    refine List.pairwise_append.2 ⟨tnL_asc hf h0 m, tkN_asc hf 63 (Nat.le_refl _), fun a ha b hb => ?_⟩
    have h1 := (tn_pv h0 ha).2.2.1
    obtain ⟨p, _, _, h2⟩ := tkN_mem (n := 63) hb
    omega

/- Lines with a number have no fault. -/
/-- The tones are good over the cantus from place k on. -/
def GdF (f n : Int) : Int → List Pt → List Pt → Prop
  | k, [c], [p] => oneZ f c p k n = 0
  | k, c :: d :: cs, p :: q :: ps => oneZ f c p k n = 0 ∧ twoZ c p d q = 0 ∧ GdF f n (k + 1) (d :: cs) (q :: ps)
  | _, _, _ => False
theorem gd_of {T : List Pt} {f n : Int} : ∀ (cs : List Pt) (k : Int) (c p : Pt) (j : Nat), j < cnN T f n k (c :: cs) p → GdF f n k (c :: cs) (p :: lnF T f n (k + 1) c p cs j)
  | [], k, c, p, j, h => by
    have h1 := cn_pos h
    rw [lnF]
    exact h1
  | d :: r, k, c, p, j, h => by
    obtain ⟨q, i, h1, h2, h3⟩ := pkN_some _ T j (cn_next h)
    have h4 : twoZ c p d q = 0 ∧ i < cnN T f n (k + 1) (d :: r) q := by
      unfold shN at h3
      split at h3
      · exact ⟨by assumption, h3⟩
      · omega
    rw [lnF_some h1]
    exact ⟨cn_pos h, h4.1, gd_of r (k + 1) d q i h4.2⟩
theorem gd_line {T : List Pt} {f : Int} {c : List Pt} {m : Nat} (h : m < cnZ T f c) (hc : c ≠ []) : GdF f c.length 0 c (lnL T f c m) := by
  cases c with
  | nil => exact absurd rfl hc
  | cons d r =>
    obtain ⟨q, i, h1, h2, h3⟩ := pkN_some _ T m h
    unfold lnL
    dsimp only
    rw [h1]
    exact gd_of r 0 d q i h3
theorem gd_one {f n : Int} : ∀ {cs ps : List Pt} {k : Int} {i : Nat} {x p : Pt}, GdF f n k cs ps → cs[i]? = some x → ps[i]? = some p → oneZ f x p (k + (i : Int)) n = 0
  | [], _, k, i, x, p, _, hx, _ => by simp at hx
  | [c], [], k, i, x, p, h, _, _ => h.elim
  | [c], [q], k, 0, x, p, h, hx, hp => by
    simp at hx hp
    subst hx hp
    rw [show k + ((0 : Nat) : Int) = k by omega]
    exact h
  | [c], [q], k, i + 1, x, p, h, hx, hp => by simp at hx
  | [c], q :: q' :: ps, k, i, x, p, h, _, _ => h.elim
  | c :: d :: cs, [], k, i, x, p, h, _, _ => h.elim
  | c :: d :: cs, [q], k, i, x, p, h, _, _ => h.elim
  | c :: d :: cs, q :: q' :: ps, k, 0, x, p, h, hx, hp => by
    simp at hx hp
    subst hx hp
    rw [show k + ((0 : Nat) : Int) = k by omega]
    exact h.1
  | c :: d :: cs, q :: q' :: ps, k, i + 1, x, p, h, hx, hp => by
    have := gd_one (i := i) h.2.2 (by simpa using hx) (by simpa using hp)
    rw [show k + ((i + 1 : Nat) : Int) = k + 1 + (i : Int) by omega]
    exact this
theorem gd_two {f n : Int} : ∀ {cs ps : List Pt} {k : Int} {i : Nat} {x p y q : Pt}, GdF f n k cs ps → cs[i]? = some x → ps[i]? = some p → cs[i + 1]? = some y → ps[i + 1]? = some q → twoZ x p y q = 0
  | [], _, k, i, x, p, y, q, _, hx, _, _, _ => by simp at hx
  | [c], ps, k, i, x, p, y, q, h, _, _, hy, _ => by simp at hy
  | c :: d :: cs, [], k, i, x, p, y, q, h, _, _, _, _ => h.elim
  | c :: d :: cs, [r], k, i, x, p, y, q, h, _, _, _, _ => h.elim
  | c :: d :: cs, r :: r' :: ps, k, 0, x, p, y, q, h, hx, hp, hy, hq => by
    simp at hx hp hy hq
    subst hx hp hy hq
    exact h.2.1
  | c :: d :: cs, r :: r' :: ps, k, i + 1, x, p, y, q, h, hx, hp, hy, hq =>
    gd_two (i := i) h.2.2 (by simpa using hx) (by simpa using hp) (by simpa using hy) (by simpa using hq)
theorem ln_none {f : Int} {c : List Pt} {lo hi m : Int} (h : lbB f c lo hi m = true) : lgB f c (lnZ f c lo hi m) = true := by
  obtain ⟨hs, h0, hm, hl, hv⟩ := ln_good h
  have hcv := (soB_iff.1 hs).1
  have hc : c ≠ [] := by
    intro e
    have := (cvB_iff.1 hcv).2.1
    rw [e] at this
    simp at this
  have hg := gd_line hm hc
  have he : lnZ f c lo hi m = lnL (tsL f lo hi) f c m.toNat := by unfold lnZ; rw [if_pos h]
  have hC : lfC f c (lnZ f c lo hi m) = true := lfC_iff.2 ⟨hcv, hl, fun x hx => (hv x hx).1⟩
  obtain ⟨o, ho⟩ : ∃ o, lnZ f c lo hi m = o := ⟨_, rfl⟩
  rw [← he, ho] at hg
  rw [ho] at hC hl
  rw [ho]
  have hz : lfZ f c o = [] := by
    unfold lfZ
    rw [if_pos hC]
    refine List.flatMap_eq_nil_iff.2 fun k hk => ?_
    have hk := List.mem_range.1 hk
    obtain ⟨x, hx⟩ : ∃ x, c[k]? = some x := ⟨_, List.getElem?_eq_getElem (by omega)⟩
    obtain ⟨p, hp⟩ : ∃ x, o[k]? = some x := ⟨_, List.getElem?_eq_getElem hk⟩
    have h1 := gd_one hg hx hp
    rw [show (0 : Int) + (k : Int) = k by omega, ← hl] at h1
    unfold lfT lfA lfB
    rw [List.getD_eq_getElem?_getD, List.getD_eq_getElem?_getD, hx, hp]
    simp only [Option.getD_some]
    rw [if_pos h1, List.nil_append]
    cases k with
    | zero => rfl
    | succ k =>
      obtain ⟨x', hx'⟩ : ∃ x, c[k]? = some x := ⟨_, List.getElem?_eq_getElem (by omega)⟩
      obtain ⟨p', hp'⟩ : ∃ x, o[k]? = some x := ⟨_, List.getElem?_eq_getElem (by omega)⟩
      have h2 := gd_two hg hx' hp' hx hp
      rw [if_neg (show ¬ k + 1 = 0 by omega), Nat.add_sub_cancel, List.getD_eq_getElem?_getD, List.getD_eq_getElem?_getD, hx', hp']
      simp only [Option.getD_some]
      rw [if_pos h2]
  unfold lgB
  rw [hC, hz]
  rfl

/- A greater number is a later line. -/
/-- The first tone that differs has the lesser key in the first line. -/
def LexK (a b : List Pt) : Prop := ∃ (i : Nat) (x y : Pt), (∀ j, j < i → a[j]? = b[j]?) ∧ a[i]? = some x ∧ b[i]? = some y ∧ kyP x < kyP y
theorem LexK.cons {a b : List Pt} (h : LexK a b) (q : Pt) : LexK (q :: a) (q :: b) := by
  obtain ⟨i, x, y, h1, h2, h3, h4⟩ := h
  refine ⟨i + 1, x, y, fun j hj => ?_, by simpa using h2, by simpa using h3, h4⟩
  cases j with
  | zero => rfl
  | succ j => simpa using h1 j (by omega)
theorem pk_mem {g : Pt → Nat} : ∀ {T : List Pt} {m : Nat} {q : Pt} {j : Nat}, pkN g m T = some (q, j) → q ∈ T
  | [], m, q, j, h => by cases h
  | x :: T, m, q, j, h => by
    unfold pkN at h
    split at h
    · cases h; exact List.mem_cons_self
    · exact List.mem_cons_of_mem _ (pk_mem h)
theorem pk_lt {g : Pt → Nat} : ∀ {T : List Pt} {m m' : Nat} {q q' : Pt} {j j' : Nat}, AscK T → pkN g m T = some (q, j) → pkN g m' T = some (q', j') → m < m' → (q = q' ∧ j < j') ∨ kyP q < kyP q'
  | [], m, m', q, q', j, j', _, h, _, _ => by cases h
  | x :: T, m, m', q, q', j, j', hT, h, h', hm => by
    unfold pkN at h h'
    split at h
    · cases h
      split at h'
      · cases h'; exact Or.inl ⟨rfl, hm⟩
      · exact Or.inr ((List.pairwise_cons.1 hT).1 q' (pk_mem h'))
    · rw [if_neg (by omega)] at h'
      exact pk_lt (List.pairwise_cons.1 hT).2 h h' (by omega)
theorem lnF_lt {T : List Pt} {f n : Int} (hT : AscK T) : ∀ (cs : List Pt) (k : Int) (c p : Pt) (j j' : Nat), j < j' → j' < cnN T f n k (c :: cs) p → LexK (lnF T f n (k + 1) c p cs j) (lnF T f n (k + 1) c p cs j')
  | [], k, c, p, j, j', hj, h => by
    unfold cnN at h
    split at h <;> omega
  | d :: r, k, c, p, j, j', hj, h => by
    obtain ⟨q, i, h1, h2, h3⟩ := pkN_some _ T j (cn_next (Nat.lt_trans hj h))
    obtain ⟨q', i', h1', h2', h3'⟩ := pkN_some _ T j' (cn_next h)
    rw [lnF_some h1, lnF_some h1']
    rcases pk_lt hT h1 h1' hj with ⟨rfl, hi⟩ | hk
    · refine LexK.cons (lnF_lt hT r (k + 1) d q i i' hi ?_) q
      unfold shN at h3'
      split at h3'
      · exact h3'
      · omega
    · exact ⟨0, q, q', fun j hj => by omega, rfl, rfl, hk⟩
theorem lnL_lt {T : List Pt} {f : Int} {c : List Pt} {m m' : Nat} (hT : AscK T) (hc : c ≠ []) (hm : m < m') (h : m' < cnZ T f c) : LexK (lnL T f c m) (lnL T f c m') := by
  cases c with
  | nil => exact absurd rfl hc
  | cons d r =>
    obtain ⟨q, i, h1, h2, h3⟩ := pkN_some _ T m (Nat.lt_trans hm h)
    obtain ⟨q', i', h1', h2', h3'⟩ := pkN_some _ T m' h
    unfold lnL
    dsimp only
    rw [h1, h1']
    dsimp only
    rcases pk_lt hT h1 h1' hm with ⟨rfl, hi⟩ | hk
    · exact LexK.cons (lnF_lt hT r 0 d q i i' hi h3') q
    · exact ⟨0, q, q', fun j hj => by omega, rfl, rfl, hk⟩
theorem ln_later {f : Int} {c : List Pt} {lo hi m : Int} (h : lbB f c lo hi m = true) (h' : lbB f c lo hi (m + 1) = true) : LexK (lnZ f c lo hi m) (lnZ f c lo hi (m + 1)) := by
  obtain ⟨hs, h0, _, _, _⟩ := ln_good h
  obtain ⟨_, _, hm', _, _⟩ := ln_good h'
  have hs2 := soB_iff.1 hs
  have hc : c ≠ [] := by
    intro e
    have := (cvB_iff.1 hs2.1).2.1
    rw [e] at this
    simp at this
  unfold lnZ
  rw [if_pos h, if_pos h']
  rw [show (m + 1).toNat = m.toNat + 1 by omega] at hm' ⊢
  exact lnL_lt (tnL_asc (cvB_iff.1 hs2.1).2.2.2 hs2.2.1.1 _) hc (Nat.lt_succ_self _) hm'

/- Wider bounds have not fewer lines. -/
theorem sum_mono {α : Type} {g g' : α → Nat} (U : List α) : ∀ T : List α, (∀ x ∈ T, g x ≤ g' x) → (T.map g).sum ≤ ((T ++ U).map g').sum
  | [], _ => by simp
  | x :: T, h => by
    have h1 := sum_mono U T fun y hy => h y (List.mem_cons_of_mem _ hy)
    have h2 := h x List.mem_cons_self
    rw [List.cons_append, List.map_cons, List.map_cons, List.sum_cons, List.sum_cons]
    omega
theorem cn_wider (T U : List Pt) (f n : Int) : ∀ (cs : List Pt) (k : Int) (p : Pt), cnN T f n k cs p ≤ cnN (T ++ U) f n k cs p
  | [], k, p => by simp [cnN]
  | [c], k, p => by simp [cnN]
  | c :: d :: r, k, p => by
    unfold cnN
    split
    · refine sum_mono U T fun q _ => ?_
      split
      · exact cn_wider T U f n (d :: r) (k + 1) q
      · exact Nat.le_refl _
    · exact Nat.le_refl _
theorem ts_wider {f lo hi : Int} (h : lo ≤ hi + 1) : ∃ U, tsL f lo (hi + 1) = tsL f lo hi ++ U := by
  unfold tsL
  refine ⟨tkL f (lo + (((hi + 1 - lo).toNat : Nat) : Int)), ?_⟩
  rw [show (hi + 1 + 1 - lo).toNat = (hi + 1 - lo).toNat + 1 by omega, tnL_up]
theorem cl_wider {f lo hi : Int} {c : List Pt} (h : soB f c lo hi = true) (h' : soB f c lo (hi + 1) = true) : clZ f c lo hi ≤ clZ f c lo (hi + 1) := by
  obtain ⟨_, _, ⟨h1, _⟩, _⟩ := soB_iff.1 h
  obtain ⟨U, hU⟩ := ts_wider (f := f) (lo := lo) (hi := hi) (by omega)
  unfold clZ
  rw [if_pos h, if_pos h', hU]
  have : cnZ (tsL f lo hi) f c ≤ cnZ (tsL f lo hi ++ U) f c := by
    unfold cnZ
    exact sum_mono U _ fun q _ => cn_wider _ U f _ c 0 q
  omega
theorem so_less {f lo hi : Int} {c : List Pt} (h : soB f c lo hi = true) (h1 : lo ≠ hi) : soB f c lo (hi - 1) = true := by
  rw [soB_iff] at h ⊢
  refine ⟨h.1, h.2.1, ?_, ?_⟩ <;> omega
theorem so_more {f lo hi : Int} {c : List Pt} (h : soB f c lo hi = true) (h1 : hi - lo < 30) (h2 : hi < 107) : soB f c lo (hi + 1) = true := by
  rw [soB_iff] at h ⊢
  refine ⟨h.1, h.2.1, ?_, ?_⟩ <;> omega
theorem lb_zero {f lo hi : Int} {c : List Pt} : lbB f c lo hi 0 = decide (0 < clZ f c lo hi) := by unfold lbB; simp

/- Plain facts for the program of chapter 15: the choices for each tone, beginnings of lines counted from the front, tones settled one after the other. -/

/-- Two ascending lists with the same pitches are one. -/
theorem asc_eq : ∀ {a b : List Pt}, AscK a → AscK b → (∀ x, x ∈ a ↔ x ∈ b) → a = b
  | [], [], _, _, _ => rfl
  | [], y :: b, _, _, h => by have := (h y).2 List.mem_cons_self; cases this
  | x :: a, [], _, _, h => by have := (h x).1 List.mem_cons_self; cases this
  | x :: a, y :: b, ha, hb, h => by
    obtain ⟨a1, a2⟩ := List.pairwise_cons.1 ha
    obtain ⟨b1, b2⟩ := List.pairwise_cons.1 hb
    have e : x = y := by
      rcases List.mem_cons.1 ((h x).1 List.mem_cons_self) with e | h1
      · exact e
      · rcases List.mem_cons.1 ((h y).2 List.mem_cons_self) with e | h2
        · exact e.symm
        · have := a1 y h2
          have := b1 x h1
          omega
    subst e
    rw [asc_eq a2 b2 fun z => ⟨fun hz => ?_, fun hz => ?_⟩]
    · rcases List.mem_cons.1 ((h z).1 (List.mem_cons_of_mem _ hz)) with e | h1
      · subst e
        have := a1 z hz
        omega
      · exact h1
    · rcases List.mem_cons.1 ((h z).2 (List.mem_cons_of_mem _ hz)) with e | h1
      · subst e
        have := b1 z hz
        omega
      · exact h1

/- The pitches of a key in a range, by their places. -/
def inKy (lo hi : Int) (x : Pt) : Bool := decide (lo ≤ kyP x) && decide (kyP x ≤ hi)
def pbL (f lo hi : Int) (n : Nat) : List Pt := (List.range n).flatMap fun p => if inKy lo hi (tnP f p) = true then [tnP f p] else []
theorem pbL_up (f lo hi : Int) (n : Nat) : pbL f lo hi (n + 1) = pbL f lo hi n ++ if inKy lo hi (tnP f n) = true then [tnP f n] else [] := by
  unfold pbL
  rw [List.range_succ, List.flatMap_append]
  simp
theorem pbL_len (f lo hi : Int) : ∀ n, (pbL f lo hi n).length ≤ n
  | 0 => by simp [pbL]
  | n + 1 => by
    have := pbL_len f lo hi n
    rw [pbL_up, List.length_append]
    split <;> simp <;> omega
theorem pbL_mem {f lo hi : Int} {n : Nat} {x : Pt} : x ∈ pbL f lo hi n ↔ ∃ p, p < n ∧ x = tnP f p ∧ lo ≤ kyP x ∧ kyP x ≤ hi := by
  unfold pbL
  rw [List.mem_flatMap]
  constructor
  · rintro ⟨p, hp, h⟩
    have hp := List.mem_range.1 hp
    split at h
    · rename_i hk
      obtain rfl := List.mem_singleton.1 h
      unfold inKy at hk
      simp at hk
      exact ⟨p, hp, rfl, hk.1, hk.2⟩
    · cases h
  · rintro ⟨p, hp, rfl, h1, h2⟩
    refine ⟨p, List.mem_range.2 hp, ?_⟩
    rw [if_pos (by unfold inKy; simp [h1, h2])]
    exact List.mem_singleton.2 rfl
theorem pbL_asc {f lo hi : Int} (hf : keyB f = true) : ∀ n, n ≤ 63 → AscK (pbL f lo hi n)
  | 0, _ => by simp [AscK, pbL]
  | n + 1, hn => by
    rw [pbL_up]
    refine List.pairwise_append.2 ⟨pbL_asc hf n (by omega), by split <;> simp, fun a ha b hb => ?_⟩
    split at hb
    · obtain rfl := List.mem_singleton.1 hb
      obtain ⟨p, hp, rfl, _⟩ := pbL_mem.1 ha
      have := tn_mono hf (p := p) (d := n - p - 1) (by omega)
      rwa [show p + (n - p - 1) + 1 = n by omega] at this
    · cases hb
theorem pb_is {f lo hi : Int} (hf : keyB f = true) (h0 : 0 ≤ lo) (h1 : lo ≤ hi) : pbL f lo hi 63 = tsL f lo hi := by
  unfold tsL
  refine asc_eq (pbL_asc hf 63 (Nat.le_refl _)) (tnL_asc hf h0 _) fun x => ?_
  rw [pbL_mem]
  constructor
  · rintro ⟨p, hp, rfl, g1, g2⟩
    refine List.mem_flatMap.2 ⟨(kyP (tnP f p) - lo).toNat, List.mem_range.2 (by omega), List.mem_flatMap.2 ⟨p, List.mem_range.2 hp, ?_⟩⟩
    rw [if_pos (by omega)]
    exact List.mem_singleton.2 rfl
  · intro hx
    obtain ⟨_, g1, g2, p, hp, rfl⟩ := tn_pv h0 hx
    exact ⟨p, hp, rfl, g1, by omega⟩

/- The choices. -/
abbrev cD (c : List Pt) (k : Nat) : Pt := c.getD k ⟨0, 0, 0⟩
theorem cD_at {c : List Pt} {k : Nat} {x : Pt} (h : c[k]? = some x) : cD c k = x := by
  unfold cD
  rw [List.getD_eq_getElem?_getD, h]
  rfl
def cfB (f : Int) (c : List Pt) (k : Nat) (p : Pt) : Bool := oneZ f (cD c k) p k c.length == 0
/-- The choices for tone k among the first j pitches. -/
def cfJ (T : List Pt) (f : Int) (c : List Pt) (k j : Nat) : List Pt := (T.take j).filter (cfB f c k)
def cfL (T : List Pt) (f : Int) (c : List Pt) (k : Nat) : List Pt := T.filter (cfB f c k)
def cfA (T : List Pt) (f : Int) (c : List Pt) : List (List Pt) := (List.range c.length).map (cfL T f c)
theorem cfJ_zero (T : List Pt) (f : Int) (c : List Pt) (k : Nat) : cfJ T f c k 0 = [] := by simp [cfJ]
theorem cfJ_full (T : List Pt) (f : Int) (c : List Pt) (k : Nat) : cfJ T f c k T.length = cfL T f c k := by simp [cfJ, cfL]
theorem cfJ_up {T : List Pt} {f : Int} {c : List Pt} {k j : Nat} {p : Pt} (h : T[j]? = some p) : cfJ T f c k (j + 1) = cfJ T f c k j ++ if cfB f c k p = true then [p] else [] := by
  unfold cfJ
  rw [List.take_add_one, h, List.filter_append]
  by_cases hp : cfB f c k p = true
  · simp [hp]
  · simp [hp]
theorem cfJ_len (T : List Pt) (f : Int) (c : List Pt) (k j : Nat) : (cfJ T f c k j).length ≤ T.length := by
  unfold cfJ
  refine Nat.le_trans (List.length_filter_le _ _) ?_
  rw [List.length_take]
  omega
theorem cfL_len (T : List Pt) (f : Int) (c : List Pt) (k : Nat) : (cfL T f c k).length ≤ T.length := List.length_filter_le _ _
theorem cfA_len (T : List Pt) (f : Int) (c : List Pt) : (cfA T f c).length = c.length := by simp [cfA]
theorem cfA_at {T : List Pt} {f : Int} {c : List Pt} {k : Nat} (h : k < c.length) : (cfA T f c)[k]? = some (cfL T f c k) := by
  unfold cfA
  rw [List.getElem?_map, List.getElem?_range h]
  rfl
theorem cfL_mem {T : List Pt} {f : Int} {c : List Pt} {k : Nat} {p : Pt} (h : p ∈ cfL T f c k) : p ∈ T ∧ oneZ f (cD c k) p k c.length = 0 := by
  have := List.mem_filter.1 h
  refine ⟨this.1, ?_⟩
  have h2 := this.2
  unfold cfB at h2
  simpa using h2

/- Sums. -/
theorem sum_none {α : Type} (g : α → Nat) : ∀ l : List α, (∀ x ∈ l, g x = 0) → (l.map g).sum = 0
  | [], _ => rfl
  | x :: l, h => by
    rw [List.map_cons, List.sum_cons, h x List.mem_cons_self, sum_none g l fun y hy => h y (List.mem_cons_of_mem _ hy)]
theorem sum_same {α : Type} (g g' : α → Nat) : ∀ l : List α, (∀ x ∈ l, g x = g' x) → (l.map g).sum = (l.map g').sum
  | [], _ => rfl
  | x :: l, h => by
    rw [List.map_cons, List.sum_cons, List.map_cons, List.sum_cons, h x List.mem_cons_self, sum_same g g' l fun y hy => h y (List.mem_cons_of_mem _ hy)]
theorem sum_both {α : Type} (g g' : α → Nat) : ∀ l : List α, (l.map fun x => g x + g' x).sum = (l.map g).sum + (l.map g').sum
  | [] => rfl
  | x :: l => by
    rw [List.map_cons, List.sum_cons, List.map_cons, List.sum_cons, List.map_cons, List.sum_cons, sum_both g g' l]
    omega
theorem sum_times {α : Type} (g : α → Nat) (m : Nat) : ∀ l : List α, (l.map fun x => m * g x).sum = m * (l.map g).sum
  | [] => rfl
  | x :: l => by
    rw [List.map_cons, List.sum_cons, List.map_cons, List.sum_cons, sum_times g m l, Nat.mul_add]
theorem sum_filter {α : Type} (P : α → Bool) (g : α → Nat) : ∀ l : List α, (∀ x ∈ l, P x = false → g x = 0) → ((l.filter P).map g).sum = (l.map g).sum
  | [], _ => rfl
  | x :: l, h => by
    have ih := sum_filter P g l fun y hy => h y (List.mem_cons_of_mem _ hy)
    by_cases hp : P x = true
    · rw [List.filter_cons_of_pos hp, List.map_cons, List.sum_cons, List.map_cons, List.sum_cons, ih]
    · rw [List.filter_cons_of_neg hp, List.map_cons, List.sum_cons, ih, h x List.mem_cons_self (by simpa using hp), Nat.zero_add]
/-- Ways between two lists, summed up in either order. -/
theorem sum_swap {α β : Type} (r : α → β → Prop) [∀ a b, Decidable (r a b)] (f : α → Nat) (g : β → Nat) (b : List β) : ∀ a : List α,
    (a.map fun x => f x * (b.map fun y => if r x y then g y else 0).sum).sum = (b.map fun y => (a.map fun x => if r x y then f x else 0).sum * g y).sum
  | [] => (sum_none _ b fun y _ => by simp).symm
  | x :: a => by
    rw [List.map_cons, List.sum_cons, sum_swap r f g b a, ← sum_times, ← sum_both]
    refine sum_same _ _ b fun y _ => ?_
    rw [List.map_cons, List.sum_cons, Nat.add_mul]
    by_cases h : r x y
    · rw [if_pos h, if_pos h]
    · rw [if_neg h, if_neg h, Nat.mul_zero, Nat.zero_mul]

/- Beginnings of lines, counted from the front. -/
abbrev cQ (CC : List (List Pt)) (k : Nat) : List Pt := CC.getD k []
theorem cQ_at {CC : List (List Pt)} {k : Nat} {A : List Pt} (h : CC[k]? = some A) : cQ CC k = A := by
  unfold cQ
  rw [List.getD_eq_getElem?_getD, h]
  rfl
/-- How many beginnings end with tone p at place k. -/
def fwK (CC : List (List Pt)) (c : List Pt) : Nat → Pt → Nat
  | 0, _ => 1
  | k + 1, q => ((cQ CC k).map fun p => if twoZ (cD c k) p (cD c (k + 1)) q = 0 then fwK CC c k p else 0).sum
/-- Among them those by way of the first j tones before. -/
def fpK (CC : List (List Pt)) (c : List Pt) (k : Nat) (q : Pt) (j : Nat) : Nat := (((cQ CC k).take j).map fun p => if twoZ (cD c k) p (cD c (k + 1)) q = 0 then fwK CC c k p else 0).sum
theorem fpK_zero (CC : List (List Pt)) (c : List Pt) (k : Nat) (q : Pt) : fpK CC c k q 0 = 0 := by simp [fpK]
theorem fpK_full (CC : List (List Pt)) (c : List Pt) (k : Nat) (q : Pt) : fpK CC c k q (cQ CC k).length = fwK CC c (k + 1) q := by
  unfold fpK
  rw [List.take_length]
  rfl
theorem fpK_up {CC : List (List Pt)} {c : List Pt} {k : Nat} {q p : Pt} {j : Nat} (h : (cQ CC k)[j]? = some p) : fpK CC c k q (j + 1) = fpK CC c k q j + if twoZ (cD c k) p (cD c (k + 1)) q = 0 then fwK CC c k p else 0 := by
  unfold fpK
  rw [List.take_add_one, h]
  simp [List.map_append, List.sum_append]
/-- The row of beginnings. -/
def fwR (CC : List (List Pt)) (c : List Pt) (k : Nat) : List Int := (cQ CC k).map fun q => (fwK CC c k q : Int)
theorem fwR_len (CC : List (List Pt)) (c : List Pt) (k : Nat) : (fwR CC c k).length = (cQ CC k).length := by simp [fwR]
theorem fwR_at {CC : List (List Pt)} {c : List Pt} {k i : Nat} {p : Pt} (h : (cQ CC k)[i]? = some p) : (fwR CC c k)[i]? = some (fwK CC c k p : Int) := by
  unfold fwR
  rw [List.getElem?_map, h]
  rfl
theorem fwR_zero (CC : List (List Pt)) (c : List Pt) : fwR CC c 0 = List.replicate (cQ CC 0).length 1 := by
  unfold fwR
  generalize cQ CC 0 = l
  induction l with
  | nil => rfl
  | cons x l ih => rw [List.map_cons, ih, List.length_cons, List.replicate_succ]; rfl
/-- How many lines there are of these choices. -/
def fwZ (CC : List (List Pt)) (c : List Pt) : Nat := ((cQ CC (c.length - 1)).map (fwK CC c (c.length - 1))).sum
def fsK (CC : List (List Pt)) (c : List Pt) (k i : Nat) : Nat := (((cQ CC k).take i).map (fwK CC c k)).sum
theorem fsK_zero (CC : List (List Pt)) (c : List Pt) (k : Nat) : fsK CC c k 0 = 0 := by simp [fsK]
theorem fsK_full (CC : List (List Pt)) (c : List Pt) (k : Nat) (h : k + 1 = c.length) : fsK CC c k (cQ CC k).length = fwZ CC c := by
  unfold fsK fwZ
  rw [List.take_length, show c.length - 1 = k by omega]
theorem fsK_up {CC : List (List Pt)} {c : List Pt} {k i : Nat} {p : Pt} (h : (cQ CC k)[i]? = some p) : fsK CC c k (i + 1) = fsK CC c k i + fwK CC c k p := by
  unfold fsK
  rw [List.take_add_one, h]
  simp [List.map_append, List.sum_append]
theorem fwK_le {CC : List (List Pt)} {c : List Pt} (hC : ∀ k, (cQ CC k).length ≤ 63) : ∀ (k : Nat) (p : Pt), fwK CC c k p ≤ 63 ^ k
  | 0, _ => Nat.le_refl _
  | k + 1, q => by
    unfold fwK
    refine Nat.le_trans (sum_le _ (63 ^ k) _ fun p _ => ?_) ?_
    · split
      · exact fwK_le hC k p
      · exact Nat.zero_le _
    · rw [Nat.pow_succ, Nat.mul_comm (63 ^ k)]
      exact Nat.mul_le_mul_right _ (hC k)
theorem fwK_num {CC : List (List Pt)} {c : List Pt} (hC : ∀ k, (cQ CC k).length ≤ 63) {k : Nat} (hk : k ≤ 9) (p : Pt) : (fwK CC c k p : Int) ≤ 15633814156853823 := by
  have h1 := fwK_le (c := c) hC k p
  have h2 : 63 ^ k ≤ 63 ^ 9 := Nat.pow_le_pow_right (by omega) hk
  have e : (63 : Nat) ^ 9 = 15633814156853823 := by decide
  omega
theorem fpK_num {CC : List (List Pt)} {c : List Pt} (hC : ∀ k, (cQ CC k).length ≤ 63) {k : Nat} (hk : k ≤ 9) (q : Pt) (j : Nat) : (fpK CC c k q j : Int) ≤ 984930291881790849 := by
  have : fpK CC c k q j ≤ 63 ^ 10 := by
    unfold fpK
    refine Nat.le_trans (sum_le _ (63 ^ 9) _ fun p _ => ?_) ?_
    · split
      · exact Nat.le_trans (fwK_le hC k p) (Nat.pow_le_pow_right (by omega) hk)
      · exact Nat.zero_le _
    · have h1 := hC k
      have : ((cQ CC k).take j).length ≤ 63 := by rw [List.length_take]; omega
      exact Nat.mul_le_mul_right _ this
  have e : (63 : Nat) ^ 10 = 984930291881790849 := by decide
  omega
theorem fsK_num {CC : List (List Pt)} {c : List Pt} (hC : ∀ k, (cQ CC k).length ≤ 63) {k : Nat} (hk : k ≤ 9) (i : Nat) : (fsK CC c k i : Int) ≤ 984930291881790849 := by
  have : fsK CC c k i ≤ 63 ^ 10 := by
    unfold fsK
    refine Nat.le_trans (sum_le _ (63 ^ 9) _ fun p _ => Nat.le_trans (fwK_le hC k p) (Nat.pow_le_pow_right (by omega) hk)) ?_
    have h1 := hC k
    have : ((cQ CC k).take i).length ≤ 63 := by rw [List.length_take]; omega
    exact Nat.mul_le_mul_right _ this
  have e : (63 : Nat) ^ 10 = 984930291881790849 := by decide
  omega

/- Ends of lines, counted from the end; r: how many tones are still to come. -/
def bwK (CC : List (List Pt)) (c : List Pt) : Nat → Nat → Pt → Nat
  | 0, _, _ => 1
  | r + 1, k, p => ((cQ CC (k + 1)).map fun q => if twoZ (cD c k) p (cD c (k + 1)) q = 0 then bwK CC c r (k + 1) q else 0).sum
theorem fb_step (CC : List (List Pt)) (c : List Pt) (r k : Nat) : ((cQ CC k).map fun p => fwK CC c k p * bwK CC c (r + 1) k p).sum = ((cQ CC (k + 1)).map fun q => fwK CC c (k + 1) q * bwK CC c r (k + 1) q).sum :=
  sum_swap (fun p q => twoZ (cD c k) p (cD c (k + 1)) q = 0) (fwK CC c k) (bwK CC c r (k + 1)) (cQ CC (k + 1)) (cQ CC k)
theorem fb_all (CC : List (List Pt)) (c : List Pt) : ∀ (r k : Nat), k + r + 1 = c.length → ((cQ CC k).map fun p => fwK CC c k p * bwK CC c r k p).sum = fwZ CC c
  | 0, k, h => by
    unfold fwZ
    rw [show c.length - 1 = k by omega]
    exact sum_same _ _ _ fun p _ => Nat.mul_one _
  | r + 1, k, h => by rw [fb_step, fb_all CC c r (k + 1) (by omega)]
theorem bw_same {CC DD : List (List Pt)} (c : List Pt) : ∀ (r k : Nat) (p : Pt), (∀ j, k < j → cQ CC j = cQ DD j) → bwK CC c r k p = bwK DD c r k p
  | 0, _, _, _ => rfl
  | r + 1, k, p, h => by
    unfold bwK
    rw [h (k + 1) (by omega)]
    refine sum_same _ _ _ fun q _ => ?_
    rw [bw_same c r (k + 1) q fun j hj => h j (by omega)]

theorem cnK_no {T : List Pt} {f : Int} {c : List Pt} {k : Nat} {p : Pt} (hk : k < c.length) (h : cfB f c k p = false) : cnK T f c k p = 0 := by
  obtain ⟨x, hx⟩ : ∃ x, c[k]? = some x := ⟨_, List.getElem?_eq_getElem hk⟩
  have h1 : ¬ oneZ f x p k c.length = 0 := by
    unfold cfB at h
    rw [cD_at hx] at h
    simpa using h
  by_cases h2 : k + 1 = c.length
  · rw [cnK_last hx h2, if_neg h1]
  · obtain ⟨y, hy⟩ : ∃ y, c[k + 1]? = some y := ⟨_, List.getElem?_eq_getElem (by omega)⟩
    rw [cnK_next hx hy, if_neg h1]
/-- Ends counted over the choices are the model's. -/
theorem bw_cn {CC : List (List Pt)} {T : List Pt} {f : Int} {c : List Pt} : ∀ (r k : Nat) (p : Pt), k + r + 1 = c.length → cfB f c k p = true → (∀ j, k < j → j < c.length → cQ CC j = cfL T f c j) → bwK CC c r k p = cnK T f c k p
  | 0, k, p, h, hp, _ => by
    obtain ⟨x, hx⟩ : ∃ x, c[k]? = some x := ⟨_, List.getElem?_eq_getElem (by omega)⟩
    unfold cfB at hp
    rw [cD_at hx] at hp
    rw [cnK_last hx (by omega), if_pos (by simpa using hp)]
    rfl
  | r + 1, k, p, h, hp, hC => by
    obtain ⟨x, hx⟩ : ∃ x, c[k]? = some x := ⟨_, List.getElem?_eq_getElem (by omega)⟩
    obtain ⟨y, hy⟩ : ∃ y, c[k + 1]? = some y := ⟨_, List.getElem?_eq_getElem (by omega)⟩
    unfold cfB at hp
    rw [cD_at hx] at hp
    rw [cnK_next hx hy, if_pos (by simpa using hp)]
    unfold bwK psK
    rw [hC (k + 1) (by omega) (by omega), List.take_length, cD_at hx, cD_at hy]
    unfold cfL
    rw [sum_same _ (stK T f c k x p y) _ fun q hq => ?_]
    · refine sum_filter _ _ _ fun q _ hq => ?_
      unfold stK
      rw [cnK_no (by omega) hq, ite_self]
    · unfold stK
      rw [bw_cn r (k + 1) q (by omega) (List.mem_filter.1 hq).2 fun j hj => hC j (by omega)]

/- Tones settled one after the other. -/
/-- The first places hold one tone each, and these are a good way. -/
def StP (CC : List (List Pt)) (c P : List Pt) : Prop := (∀ i, i < P.length → cQ CC i = [cD P i]) ∧ ∀ i, i + 1 < P.length → twoZ (cD c i) (cD P i) (cD c (i + 1)) (cD P (i + 1)) = 0
theorem StP.fw {CC : List (List Pt)} {c P : List Pt} (h : StP CC c P) : ∀ k, k < P.length → fwK CC c k (cD P k) = 1
  | 0, _ => rfl
  | k + 1, hk => by
    unfold fwK
    rw [h.1 k (by omega)]
    simp only [List.map_cons, List.map_nil, List.sum_cons, List.sum_nil, Nat.add_zero]
    rw [if_pos (h.2 k hk), h.fw k (by omega)]
/-- How many lines there are with one more tone settled: that tone's share. -/
theorem fw_share {CC : List (List Pt)} {T : List Pt} {f : Int} {c P : List Pt} {q : Pt} (h : StP CC c P) (hk : P.length < c.length) (hq : cfB f c P.length q = true) (he : cQ CC P.length = [q]) (hC : ∀ j, P.length < j → j < c.length → cQ CC j = cfL T f c j) : fwZ CC c = shK T f c P.length (cD P (P.length - 1)) q := by
  rw [← fb_all CC c (c.length - P.length - 1) P.length (by omega), he]
  simp only [List.map_cons, List.map_nil, List.sum_cons, List.sum_nil, Nat.add_zero]
  rw [bw_cn (T := T) _ _ _ (by omega) hq hC]
  unfold shK
  by_cases h0 : P.length = 0
  · rw [if_pos h0, h0]
    show 1 * _ = _
    rw [Nat.one_mul]
  · obtain ⟨a, ha⟩ : ∃ a, P.length = a + 1 := ⟨P.length - 1, by omega⟩
    rw [if_neg h0]
    rw [ha, Nat.add_sub_cancel]
    unfold stK fwK
    rw [h.1 a (by omega)]
    simp only [List.map_cons, List.map_nil, List.sum_cons, List.sum_nil, Nat.add_zero]
    rw [h.fw a (by omega)]
    by_cases h2 : twoZ (cD c a) (cD P a) (cD c (a + 1)) q = 0
    · rw [if_pos h2, if_pos h2, Nat.one_mul]
    · rw [if_neg h2, if_neg h2, Nat.zero_mul]
theorem shK_no {T : List Pt} {f : Int} {c : List Pt} {k : Nat} {p q : Pt} (hk : k < c.length) (h : cfB f c k q = false) : shK T f c k p q = 0 := by
  unfold shK
  by_cases h0 : k = 0
  · subst h0
    rw [if_pos rfl, cnK_no hk h]
  · rw [if_neg h0]
    unfold stK
    rw [show k - 1 + 1 = k by omega, cnK_no hk h, ite_self]
theorem pk_filter {g : Pt → Nat} (P : Pt → Bool) (h : ∀ q, P q = false → g q = 0) : ∀ (T : List Pt) (m : Nat), pkN g m (T.filter P) = pkN g m T
  | [], _ => rfl
  | x :: T, m => by
    by_cases hp : P x = true
    · rw [List.filter_cons_of_pos hp]
      unfold pkN
      rw [pk_filter P h T]
    · rw [List.filter_cons_of_neg hp, pk_filter P h T m]
      conv => rhs; unfold pkN
      rw [h x (by simpa using hp), if_neg (by omega), Nat.sub_zero]
theorem pk_ch {T : List Pt} {f : Int} {c : List Pt} {k : Nat} {p : Pt} {m : Nat} (hk : k < c.length) : pkN (shK T f c k p) m (cfL T f c k) = pkN (shK T f c k p) m T := pk_filter _ (fun _ h => shK_no hk h) T m
theorem sh_ch {T : List Pt} {f : Int} {c : List Pt} {k : Nat} {p : Pt} (hk : k < c.length) : ((cfL T f c k).map (shK T f c k p)).sum = (T.map (shK T f c k p)).sum := sum_filter _ _ _ fun _ _ h => shK_no hk h
/-- All choices together make as many lines as the model counts. -/
theorem fw_all {CC : List (List Pt)} {T : List Pt} {f : Int} {c : List Pt} (h0 : 0 < c.length) (hC : ∀ j, j < c.length → cQ CC j = cfL T f c j) : fwZ CC c = cnZ T f c := by
  rw [← fb_all CC c (c.length - 1) 0 (by omega), hC 0 h0, cnK_zero, ← sh_ch h0]
  refine sum_same _ _ _ fun p hp => ?_
  rw [bw_cn (T := T) _ _ _ (by omega) (List.mem_filter.1 hp).2 fun j _ hj => hC j hj]
  show 1 * _ = _
  rw [Nat.one_mul]
  rfl
/-- One more tone is settled. -/
theorem StP.snoc {CC : List (List Pt)} {c P : List Pt} {q : Pt} (h : StP CC c P) (hl : P.length < CC.length) (hq : P.length = 0 ∨ twoZ (cD c (P.length - 1)) (cD P (P.length - 1)) (cD c P.length) q = 0) : StP (CC.set P.length [q]) c (P ++ [q]) := by
  have e1 : ∀ i, i < P.length → cD (P ++ [q]) i = cD P i := fun i hi => by
    unfold cD
    rw [List.getD_eq_getElem?_getD, List.getD_eq_getElem?_getD, List.getElem?_append_left hi]
  have e2 : cD (P ++ [q]) P.length = q := by
    unfold cD
    rw [List.getD_eq_getElem?_getD, List.getElem?_append_right (Nat.le_refl _), Nat.sub_self]
    rfl
  refine ⟨fun i hi => ?_, fun i hi => ?_⟩
  · rw [List.length_append, List.length_singleton] at hi
    by_cases h0 : i = P.length
    · subst h0
      rw [e2]
      exact cQ_at (List.getElem?_set_self hl)
    · rw [e1 i (by omega), ← h.1 i (by omega)]
      unfold cQ
      rw [List.getD_eq_getElem?_getD, List.getD_eq_getElem?_getD, List.getElem?_set_ne (by omega)]
  · rw [List.length_append, List.length_singleton] at hi
    by_cases h0 : i + 1 = P.length
    · rcases hq with hq | hq
      · omega
      · rw [h0, e2, e1 i (by omega)]
        rwa [show P.length - 1 = i by omega] at hq
    · rw [e1 i (by omega), e1 (i + 1) (by omega)]
      exact h.2 i (by omega)
theorem shK_two {T : List Pt} {f : Int} {c : List Pt} {k i : Nat} {p q : Pt} (h : i < shK T f c k p q) : k = 0 ∨ twoZ (cD c (k - 1)) p (cD c k) q = 0 := by
  unfold shK at h
  split at h
  · exact Or.inl (by assumption)
  · refine Or.inr ?_
    unfold stK at h
    split at h
    · assumption
    · omega
end Go.Proofs.YtieoobanpllmgaaDoor
