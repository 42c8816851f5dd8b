/- Plain facts for chapter 6: divided notes are tied; divided again; their ties joined. -/
import Derived.Test.YtcifmpjefhichaaDoorPure6
namespace Go.Proofs.YtcifmpjefhichaaDoor
set_option linter.unusedSimpArgs false
set_option linter.unusedVariables false

theorem tieB_cons2 {x : Nt} {l : List Nt} : tieB (x :: l) = true ↔ nvB x = true ∧ (x.y = true → ∃ z m, l = z :: m ∧ z.r = false ∧ toneB x z = true) ∧ tieB l = true := by
  cases l with
  | nil =>
    rw [tieB_one]
    constructor
    · exact fun ⟨h1, h2⟩ => ⟨h1, fun h => absurd (h2.symm.trans h) (by decide), rfl⟩
    · intro ⟨h1, h2, _⟩
      refine ⟨h1, ?_⟩
      cases hy : x.y with
      | false => rfl
      | true => obtain ⟨z, m, h, _⟩ := h2 hy; cases h
  | cons z m =>
    rw [tieB_cons]
    unfold linkB
    constructor
    · intro ⟨h1, h2, h3⟩
      refine ⟨h1, fun hy => ⟨z, m, rfl, ?_⟩, h3⟩
      simpa [hy] using h2
    · intro ⟨h1, h2, h3⟩
      refine ⟨h1, ?_, h3⟩
      cases hy : x.y with
      | false => rfl
      | true =>
        obtain ⟨z', m', e, h4, h5⟩ := h2 hy
        cases e
        simp [h4, h5]
theorem pc_more {bar at' left : Int} {x : Nt} (h : pcN bar at' left < left) : (pcX bar at' left x).y = !x.r := by
  unfold pcX
  have e1 : decide (0 < left - pcN bar at' left) = true := by simp; omega
  have e2 : (left - pcN bar at' left == 0) = false := by rw [beq_eq_false_iff_ne]; omega
  simp only [e1, e2, Bool.and_true, Bool.false_and, Bool.or_false]
theorem pc_last {bar at' left : Int} {x : Nt} (h : pcN bar at' left = left) : (pcX bar at' left x).y = x.y := by
  unfold pcX
  have e1 : decide (0 < left - pcN bar at' left) = false := by simp; omega
  have e2 : (left - pcN bar at' left == 0) = true := by rw [beq_iff_eq]; omega
  simp only [e1, e2, Bool.and_false, Bool.true_and, Bool.false_or]
theorem pc_nv {bar at' left : Int} {x : Nt} (hb : 1 ≤ bar) (hl : 1 ≤ left) (h9 : left ≤ 768) (hx : nvB x = true) : nvB (pcX bar at' left x) = true := by
  obtain ⟨h1, _, h3⟩ := nvB_iff.1 hx
  have hp := pc_bd (at' := at') hb hl
  refine nvB_iff.2 ⟨fun hr => ⟨?_, (h1 hr).2⟩, by show 1 ≤ pcN bar at' left ∧ _; simp only [pcX]; omega, h3⟩
  have hr' : x.r = true := hr
  by_cases h : pcN bar at' left < left
  · rw [pc_more h, hr']; rfl
  · rw [pc_last (by omega)]; exact (h1 hr').1
theorem cut_tie {bar : Int} (hb : 1 ≤ bar) (x : Nt) (hx : nvB x = true) (R : List Nt) (hR : tieB R = true) (hy : x.y = true → ∃ z m, R = z :: m ∧ z.r = false ∧ toneB x z = true) :
    ∀ at' left, left ≤ 768 → tieB (cutL bar at' left x ++ R) = true := by
  refine cut_ind hb (fun at' left h _ => ?_) (fun at' left h ih h9 => ?_)
  · rw [cutL_end h]; exact hR
  · have hp := pc_bd (at' := at') hb h
    rw [cutL_step hb h, List.cons_append]
    refine tieB_cons2.2 ⟨pc_nv hb h h9 hx, fun e => ?_, ih (by omega)⟩
    by_cases hm : pcN bar at' left < left
    · rw [pc_more hm] at e
      have hr : x.r = false := by simpa using e
      rw [cutL_step hb (show 1 ≤ left - pcN bar at' left by omega)]
      exact ⟨_, _, List.cons_append, hr, by simp [toneB, pcX]⟩
    · rw [pc_last (by omega)] at e
      obtain ⟨z, m, e1, e2, e3⟩ := hy e
      exact ⟨z, m, by rw [cutL_end (by omega), e1]; rfl, e2, e3⟩
theorem sp_tie {bar : Int} (hb : 1 ≤ bar) : ∀ (v : List Nt) (at' : Int), tieB v = true → tieB (spF bar at' v) = true
  | [], _, _ => rfl
  | x :: l, at', h => by
    obtain ⟨h1, h2, h3⟩ := tieB_cons2.1 h
    unfold spF
    refine cut_tie hb x h1 _ (sp_tie hb l _ h3) (fun hy => ?_) _ _ (nv_pos h1).2
    obtain ⟨z, m, rfl, e2, e3⟩ := h2 hy
    have hz := nv_pos (tieB_head h3)
    unfold spF
    rw [cutL_step hb hz.1]
    exact ⟨_, _, List.cons_append, e2, by simpa [toneB, pcX] using e3⟩

/-! ### Ties joined -/

theorem jo_cut1 {bar : Int} (hb : 1 ≤ bar) (x : Nt) (hr : x.r = false) (R : List Nt) :
    ∀ at' left, 1 ≤ left → ∀ c : Nt, c.y = true → c.t + left ≤ 768 → joF c (cutL bar at' left x ++ R) = joF { c with t := c.t + left, y := x.y } R := by
  refine cut_ind hb (fun at' left h h1 => by omega) (fun at' left h ih _ c hc h9 => ?_)
  have hp := pc_bd (at' := at') hb h
  rw [cutL_step hb h, List.cons_append, joF_yes ⟨hc, by simp only [pcX]; omega⟩]
  by_cases hm : pcN bar at' left < left
  · rw [ih (by omega) _ (by simp only [mergeN]; rw [pc_more hm, hr]; rfl) (by simp only [mergeN, pcX]; omega)]
    simp only [mergeN, pcX]
    rw [show c.t + pcN bar at' left + (left - pcN bar at' left) = c.t + left by omega]
  · rw [cutL_end (by omega)]
    simp only [mergeN, pc_last (show pcN bar at' left = left by omega), List.nil_append]
    simp only [pcX, show pcN bar at' left = left by omega]
theorem jo_cut2 {bar : Int} (hb : 1 ≤ bar) (x : Nt) (hr : x.r = false) (R : List Nt) (h1 : 1 ≤ x.t) (h9 : x.t ≤ 768) (at' : Int) : ∃ p L, cutL bar at' x.t x ++ R = p :: L ∧ joF p L = joF x R := by
  have hp := pc_bd (at' := at') hb h1
  refine ⟨_, _, by rw [cutL_step hb h1, List.cons_append], ?_⟩
  by_cases hm : pcN bar at' x.t < x.t
  · rw [jo_cut1 hb x hr R _ _ (by omega) _ (by rw [pc_more hm, hr]; rfl) (by simp only [pcX]; omega)]
    simp only [pcX]
    rw [show pcN bar at' x.t + (x.t - pcN bar at' x.t) = x.t by omega]
  · rw [cutL_end (by omega), List.nil_append]
    have e : pcX bar at' x.t x = x := by
      have h2 := pc_last (x := x) (show pcN bar at' x.t = x.t by omega)
      have h3 : (pcX bar at' x.t x).t = x.t := by show pcN bar at' x.t = x.t; omega
      have h4 : pcX bar at' x.t x = { x with t := (pcX bar at' x.t x).t, y := (pcX bar at' x.t x).y } := rfl
      rw [h4, h2, h3]
    rw [e]
theorem jo_sp {bar : Int} (hb : 1 ≤ bar) : ∀ (l : List Nt) (c : Nt) (at' : Int), (∀ x ∈ l, x.r = false ∧ 1 ≤ x.t ∧ x.t ≤ 768) → fO (if c.y = true then c.t else 0) l → joF c (spF bar at' l) = joF c l
  | [], _, _, _, _ => rfl
  | x :: l, c, at', h, hf => by
    obtain ⟨h1, h2, h3⟩ := h x (by simp)
    obtain ⟨f1, f2⟩ := hf
    unfold spF
    cases hc : c.y with
    | true =>
      rw [hc, if_pos rfl] at f1 f2
      rw [jo_cut1 hb x h1 _ _ _ h2 c hc (by omega), joF_yes ⟨hc, by omega⟩]
      exact jo_sp hb l (mergeN c x) _ (fun z hz => h z (by simp [hz])) f2
    | false =>
      rw [hc, show (if false = true then c.t else 0) = (0 : Int) from rfl, Int.zero_add] at f1 f2
      have hno : ∀ z : Nt, ¬ (c.y = true ∧ c.t + z.t ≤ 768) := fun z e => absurd (hc.symm.trans e.1) (by decide)
      obtain ⟨p, L, e1, e2⟩ := jo_cut2 hb x h1 (spF bar (at' + x.t) l) h2 h3 at'
      rw [e1, joF_no (hno p), e2, joF_no (hno x)]
      rw [jo_sp hb l x _ (fun z hz => h z (by simp [hz])) f2]
/-- joining the ties leads to what joining the ties of the voice leads to. -/
theorem joL_sp {bar : Int} (hb : 1 ≤ bar) {v : List Nt} (h : tieB v = true) (hr : ∀ x ∈ v, x.r = false) (hn : ∀ z ∈ joL v, z.y = false) : joL (spL bar v) = joL v := by
  cases v with
  | nil => rfl
  | cons x l =>
    have ha : ∀ z ∈ x :: l, z.r = false ∧ 1 ≤ z.t ∧ z.t ≤ 768 := fun z hz => by
      obtain ⟨i, hi⟩ := List.getElem?_of_mem hz
      exact ⟨hr z hz, nv_pos (tieB_at h hi)⟩
    obtain ⟨h1, h2, h3⟩ := ha x (by simp)
    obtain ⟨p, L, e1, e2⟩ := jo_cut2 hb x h1 (spF bar (0 + x.t) l) h2 h3 0
    show joL (spF bar 0 (x :: l)) = joF x l
    unfold spF
    rw [e1]
    show joF p L = _
    rw [e2]
    exact jo_sp hb l x _ (fun z hz => ha z (by simp [hz])) (jo_few l x h hn).1

/-! ### Divided again -/

theorem cutF_t {bar : Int} : ∀ (f : Nat) (at' left : Int) (x : Nt) (t : Int), cutF bar f at' left { x with t := t } = cutF bar f at' left x
  | 0, _, _, _, _ => rfl
  | f + 1, at', left, x, t => by
    unfold cutF
    rw [cutF_t f]
theorem cutL_t {bar at' left : Int} {x : Nt} {t : Int} : cutL bar at' left { x with t := t } = cutL bar at' left x := cutF_t _ _ _ _ _
theorem mod_far {beat at' n : Int} (hb : 1 ≤ beat) (hn : 1 ≤ n) (h : (at' + n) % beat = 0) : beat - at' % beat ≤ n := by
  have h1 := Int.emod_nonneg at' (show beat ≠ 0 by omega)
  have h2 : (at' % beat + n) % beat = 0 := by rw [Int.emod_add_emod]; exact h
  by_cases hlt : at' % beat + n < beat
  · rw [Int.emod_eq_of_lt (by omega) hlt] at h2; omega
  · omega
/-- divided at a point in between first. -/
theorem cut_split {beat : Int} (hb : 1 ≤ beat) (x : Nt) : ∀ at' n, 1 ≤ n → ∀ left, n ≤ left → (n < left → (at' + n) % beat = 0) →
    cutL beat at' left x = cutL beat at' n { x with y := if n < left then !x.r else x.y } ++ cutL beat (at' + n) (left - n) x := by
  refine cut_ind hb (fun at' n h h1 => by omega) (fun at' n h ih _ left hl hm => ?_)
  have hp := pc_bd (at' := at') hb h
  have hpe : pcN beat at' left = pcN beat at' n := by
    by_cases hlt : n < left
    · have := mod_far hb h (hm hlt)
      unfold pcN; omega
    · have : left = n := by omega
      rw [this]
  have hx : pcX beat at' left x = pcX beat at' n { x with y := if n < left then !x.r else x.y } := by
    have hy : (pcX beat at' left x).y = (pcX beat at' n { x with y := if n < left then !x.r else x.y }).y := by
      by_cases h1 : pcN beat at' n < n
      · rw [pc_more (by omega), pc_more h1]
      · have e : pcN beat at' n = n := by omega
        rw [pc_last e]
        show _ = if n < left then !x.r else x.y
        by_cases hlt : n < left
        · rw [if_pos hlt, pc_more (by omega)]
        · rw [if_neg hlt, pc_last (by omega)]
    unfold pcX at hy ⊢
    simp only [hpe] at hy ⊢
    rw [hy]
  rw [cutL_step hb (show 1 ≤ left by omega), cutL_step hb h, hx, hpe, List.cons_append]
  congr 1
  by_cases h1 : pcN beat at' n < n
  · have := ih (by omega) (left - pcN beat at' n) (by omega) (fun hlt => by rw [show at' + pcN beat at' n + (n - pcN beat at' n) = at' + n by omega]; exact hm (by omega))
    rw [this]
    have e : (n - pcN beat at' n < left - pcN beat at' n) = (n < left) := by rw [eq_iff_iff]; omega
    simp only [e]
    rw [show at' + pcN beat at' n + (n - pcN beat at' n) = at' + n by omega, show left - pcN beat at' n - (n - pcN beat at' n) = left - n by omega]
  · have e : pcN beat at' n = n := by omega
    rw [e, cutL_end (show n - n ≤ 0 by omega), List.nil_append]
theorem pc_mod {bar at' left : Int} (hb : 1 ≤ bar) (h : pcN bar at' left < left) : (at' + pcN bar at' left) % bar = 0 := by
  have e : pcN bar at' left = bar - at' % bar := by unfold pcN at h ⊢; omega
  rw [e]
  have := Int.mul_ediv_add_emod at' bar
  rw [show at' + (bar - at' % bar) = bar * (at' / bar + 1) by rw [Int.mul_add]; omega]
  exact Int.mul_emod_right _ _
theorem cut_cut {bar beat : Int} (hb : 1 ≤ bar) (he : 1 ≤ beat) (hd : beat ∣ bar) (x : Nt) : ∀ at' left, spF beat at' (cutL bar at' left x) = cutL beat at' left x := by
  refine cut_ind hb (fun at' left h => ?_) (fun at' left h ih => ?_)
  · rw [cutL_end h, cutL_end h]; rfl
  · have hp := pc_bd (at' := at') hb h
    rw [cutL_step hb h]
    show cutL beat at' (pcN bar at' left) (pcX bar at' left x) ++ spF beat (at' + pcN bar at' left) _ = _
    rw [ih, cut_split he x at' (pcN bar at' left) hp.1 left hp.2 (fun hlt => Int.emod_eq_zero_of_dvd (Int.dvd_trans hd (Int.dvd_of_emod_eq_zero (pc_mod hb hlt))))]
    congr 1
    have e : pcX bar at' left x = { ({ x with y := if pcN bar at' left < left then !x.r else x.y } : Nt) with t := pcN bar at' left } := by
      have hy : (pcX bar at' left x).y = if pcN bar at' left < left then !x.r else x.y := by
        by_cases hlt : pcN bar at' left < left
        · rw [if_pos hlt, pc_more hlt]
        · rw [if_neg hlt, pc_last (by omega)]
      rw [← hy]
      rfl
    rw [e, cutL_t]
/-- a voice divided at bars, and then at every beat, is the voice divided at every beat. -/
theorem sp_sp {bar beat : Int} (hb : 1 ≤ bar) (he : 1 ≤ beat) (hd : beat ∣ bar) : ∀ (v : List Nt) (at' : Int), (∀ x ∈ v, 0 ≤ x.t) → spF beat at' (spF bar at' v) = spF beat at' v
  | [], _, _ => rfl
  | x :: l, at', h => by
    have hx := h x (by simp)
    show spF beat at' (cutL bar at' x.t x ++ spF bar (at' + x.t) l) = cutL beat at' x.t x ++ spF beat (at' + x.t) l
    rw [sp_append, cut_cut hb he hd, cut_sum hb, if_pos hx, sp_sp hb he hd l _ (fun z hz => h z (by simp [hz]))]
end Go.Proofs.YtcifmpjefhichaaDoor
