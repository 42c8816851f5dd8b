/- Plain facts for chapter 6: meters; notes divided at the ends of bars. -/
import Derived.Test.YtcifmpjefhichabDoorPure5
namespace Go.Proofs.YtcifmpjefhichabDoor
set_option linter.unusedSimpArgs false
set_option linter.unusedVariables false

/-- the meter is valid. -/
def meB (b u : Int) : Bool := inB b 1 12 && (u == 2 || u == 4 || u == 8 || u == 16)
theorem meB_iff {b u : Int} : meB b u = true ↔ (1 ≤ b ∧ b ≤ 12) ∧ (u = 2 ∨ u = 4 ∨ u = 8 ∨ u = 16) := by
  unfold meB
  rw [Bool.and_eq_true, inB_iff]
  simp [or_assoc]
/-- the ticks of a beat; of a bar. -/
def beZ (u : Int) : Int := 192 / u
def baZ (b u : Int) : Int := b * 192 / u
theorem be_cases {b u : Int} (h : meB b u = true) : (u = 2 ∧ beZ u = 96 ∧ baZ b u = b * 96) ∨ (u = 4 ∧ beZ u = 48 ∧ baZ b u = b * 48) ∨ (u = 8 ∧ beZ u = 24 ∧ baZ b u = b * 24) ∨ (u = 16 ∧ beZ u = 12 ∧ baZ b u = b * 12) := by
  obtain ⟨_, rfl | rfl | rfl | rfl⟩ := meB_iff.1 h
  · exact Or.inl ⟨rfl, rfl, by unfold baZ; omega⟩
  · exact Or.inr (Or.inl ⟨rfl, rfl, by unfold baZ; omega⟩)
  · exact Or.inr (Or.inr (Or.inl ⟨rfl, rfl, by unfold baZ; omega⟩))
  · exact Or.inr (Or.inr (Or.inr ⟨rfl, rfl, by unfold baZ; omega⟩))
theorem ba_be {b u : Int} (h : meB b u = true) : baZ b u = b * beZ u := by
  rcases be_cases h with ⟨_, e1, e2⟩ | ⟨_, e1, e2⟩ | ⟨_, e1, e2⟩ | ⟨_, e1, e2⟩ <;> rw [e1, e2]
theorem be_bd {b u : Int} (h : meB b u = true) : 12 ≤ beZ u ∧ beZ u ≤ 96 := by
  rcases be_cases h with ⟨_, e1, e2⟩ | ⟨_, e1, e2⟩ | ⟨_, e1, e2⟩ | ⟨_, e1, e2⟩ <;> omega
theorem ba_bd {b u : Int} (h : meB b u = true) : 12 ≤ baZ b u ∧ baZ b u ≤ 1152 := by
  obtain ⟨⟨h1, h2⟩, _⟩ := meB_iff.1 h
  rcases be_cases h with ⟨_, e1, e2⟩ | ⟨_, e1, e2⟩ | ⟨_, e1, e2⟩ | ⟨_, e1, e2⟩ <;> omega
def btZ (b u : Int) : Int := if meB b u then baZ b u else -1

/-! ### Notes divided -/

/-- a note at a tick, divided at the ends of bars: as many of its ticks as are left. -/
def cutF (bar : Int) : Nat → Int → Int → Nt → List Nt
  | 0, _, _, _ => []
  | f + 1, at', left, x => if left ≤ 0 then [] else
      { x with t := min left (bar - at' % bar), y := (!x.r && decide (0 < left - min left (bar - at' % bar))) || (left - min left (bar - at' % bar) == 0 && x.y) } :: cutF bar f (at' + min left (bar - at' % bar)) (left - min left (bar - at' % bar)) x
/-- the piece at a tick. -/
def pcN (bar at' left : Int) : Int := min left (bar - at' % bar)
def pcX (bar at' left : Int) (x : Nt) : Nt := { x with t := pcN bar at' left, y := (!x.r && decide (0 < left - pcN bar at' left)) || (left - pcN bar at' left == 0 && x.y) }
theorem pc_bd {bar at' left : Int} (hb : 1 ≤ bar) (hl : 1 ≤ left) : 1 ≤ pcN bar at' left ∧ pcN bar at' left ≤ left := by
  have := Int.emod_lt_of_pos at' (show 0 < bar by omega)
  unfold pcN
  omega
theorem cutF_step {bar : Int} {f : Nat} {at' left : Int} {x : Nt} (hl : 1 ≤ left) : cutF bar (f + 1) at' left x = pcX bar at' left x :: cutF bar f (at' + pcN bar at' left) (left - pcN bar at' left) x := by
  rw [cutF, if_neg (by omega)]
  rfl
theorem cutF_end {bar : Int} {f : Nat} {at' left : Int} {x : Nt} (hl : left ≤ 0) : cutF bar f at' left x = [] := by
  cases f with
  | zero => rfl
  | succ f => rw [cutF, if_pos hl]
theorem cutF_fuel {bar : Int} (hb : 1 ≤ bar) : ∀ (f g : Nat) (at' left : Int) (x : Nt), left ≤ f → left ≤ g → cutF bar f at' left x = cutF bar g at' left x
  | 0, g, at', left, x, h, _ => by rw [cutF_end (by omega), cutF_end (by omega)]
  | f + 1, 0, at', left, x, _, h => by rw [cutF_end (by omega), cutF_end (by omega)]
  | f + 1, g + 1, at', left, x, h1, h2 => by
    by_cases hl : 1 ≤ left
    · have := pc_bd (at' := at') hb hl
      rw [cutF_step hl, cutF_step hl, cutF_fuel hb f g _ _ _ (by omega) (by omega)]
    · rw [cutF_end (by omega), cutF_end (by omega)]
/-- the pieces of a note. -/
def cutL (bar at' left : Int) (x : Nt) : List Nt := cutF bar left.toNat at' left x
theorem cutL_step {bar at' left : Int} {x : Nt} (hb : 1 ≤ bar) (hl : 1 ≤ left) : cutL bar at' left x = pcX bar at' left x :: cutL bar (at' + pcN bar at' left) (left - pcN bar at' left) x := by
  have := pc_bd (at' := at') hb hl
  unfold cutL
  rw [show left.toNat = (left.toNat - 1) + 1 by omega, cutF_step hl, cutF_fuel hb (left.toNat - 1) (left - pcN bar at' left).toNat _ _ _ (by omega) (by omega)]
theorem cutL_end {bar at' left : Int} {x : Nt} (hl : left ≤ 0) : cutL bar at' left x = [] := cutF_end hl
/-- by the ticks that are left. -/
theorem cut_ind {bar : Int} (hb : 1 ≤ bar) {P : Int → Int → Prop} (h0 : ∀ at' left, left ≤ 0 → P at' left)
    (h1 : ∀ at' left, 1 ≤ left → P (at' + pcN bar at' left) (left - pcN bar at' left) → P at' left) : ∀ at' left, P at' left := by
  have key : ∀ (f : Nat) (at' left : Int), left ≤ f → P at' left := by
    intro f
    induction f with
    | zero => intro at' left h; exact h0 _ _ (by omega)
    | succ f ih =>
      intro at' left h
      by_cases hl : 1 ≤ left
      · have := pc_bd (at' := at') hb hl
        exact h1 _ _ hl (ih _ _ (by omega))
      · exact h0 _ _ (by omega)
  intro at' left
  exact key left.toNat at' left (by omega)
/-- all notes divided, from a tick on; a voice. -/
def spF (bar : Int) : Int → List Nt → List Nt
  | _, [] => []
  | at', x :: l => cutL bar at' x.t x ++ spF bar (at' + x.t) l
def spL (bar : Int) (v : List Nt) : List Nt := spF bar 0 v
theorem cut_sum {bar : Int} (hb : 1 ≤ bar) (x : Nt) : ∀ at' left, sumT (cutL bar at' left x) = if 0 ≤ left then left else 0 := by
  refine cut_ind hb (fun at' left h => ?_) (fun at' left h ih => ?_)
  · rw [cutL_end h]; simp only [sumT]; split <;> omega
  · have := pc_bd (at' := at') hb h
    rw [cutL_step hb h, if_pos (by omega)]
    simp only [sumT, ih, pcX]
    rw [if_pos (by omega)]; omega
theorem sp_sum {bar : Int} (hb : 1 ≤ bar) : ∀ (v : List Nt) (at' : Int), (∀ x ∈ v, 0 ≤ x.t) → sumT (spF bar at' v) = sumT v
  | [], _, _ => rfl
  | x :: l, at', h => by
    unfold spF
    rw [sumT_append, cut_sum hb, if_pos (h x (by simp)), sp_sum hb l _ (fun z hz => h z (by simp [hz]))]
    rfl
/-- no note goes beyond the end of a bar. -/
def inBars (bar : Int) : Int → List Nt → Prop
  | _, [] => True
  | at', x :: l => at' / bar = (at' + x.t - 1) / bar ∧ inBars bar (at' + x.t) l
theorem inBars_append {bar : Int} : ∀ (u : List Nt) (v : List Nt) (at' : Int), inBars bar at' (u ++ v) ↔ inBars bar at' u ∧ inBars bar (at' + sumT u) v
  | [], v, at' => by simp [inBars, sumT]
  | x :: u, v, at' => by
    simp only [List.cons_append, inBars, inBars_append u v, sumT, and_assoc]
    rw [show at' + x.t + sumT u = at' + (x.t + sumT u) by omega]
theorem pc_in {bar at' left : Int} (hb : 1 ≤ bar) (h0 : 0 ≤ at') (hl : 1 ≤ left) : at' / bar = (at' + pcN bar at' left - 1) / bar := by
  have h1 := Int.emod_nonneg at' (show bar ≠ 0 by omega)
  have h2 := Int.emod_lt_of_pos at' (show 0 < bar by omega)
  have h3 := Int.mul_ediv_add_emod at' bar
  have hp := pc_bd (at' := at') hb hl
  have hp2 : pcN bar at' left ≤ bar - at' % bar := by unfold pcN; omega
  generalize pcN bar at' left = p at *
  generalize hq : at' / bar = q at *
  generalize at' % bar = r at *
  rw [show at' + p - 1 = (r + p - 1) + bar * q by omega, Int.add_mul_ediv_left _ _ (by omega), Int.ediv_eq_zero_of_lt (by omega) (by omega)]
  omega
theorem cut_in {bar : Int} (hb : 1 ≤ bar) (x : Nt) : ∀ at' left, 0 ≤ at' → inBars bar at' (cutL bar at' left x) := by
  refine cut_ind hb (fun at' left h _ => ?_) (fun at' left h ih h0 => ?_)
  · rw [cutL_end h]; trivial
  · have := pc_bd (at' := at') hb h
    rw [cutL_step hb h]
    exact ⟨pc_in hb h0 h, ih (by omega)⟩
theorem sp_in {bar : Int} (hb : 1 ≤ bar) : ∀ (v : List Nt) (at' : Int), (∀ x ∈ v, 0 ≤ x.t) → 0 ≤ at' → inBars bar at' (spF bar at' v)
  | [], _, _, _ => trivial
  | x :: l, at', h, h0 => by
    have hx := h x (by simp)
    unfold spF
    rw [inBars_append, cut_sum hb, if_pos hx]
    exact ⟨cut_in hb x _ _ h0, sp_in hb l _ (fun z hz => h z (by simp [hz])) (by omega)⟩

/-! ### How many pieces -/

theorem len_sum : ∀ (l : List Nt), (∀ x ∈ l, 1 ≤ x.t) → (l.length : Int) ≤ sumT l
  | [], _ => by simp [sumT]
  | x :: l, h => by
    have h1 := h x (by simp)
    have h2 := len_sum l (fun z hz => h z (by simp [hz]))
    simp only [List.length_cons, sumT]
    omega
theorem cut_pos {bar : Int} (hb : 1 ≤ bar) (x : Nt) : ∀ at' left, ∀ y ∈ cutL bar at' left x, 1 ≤ y.t := by
  refine cut_ind hb (fun at' left h y hy => ?_) (fun at' left h ih y hy => ?_)
  · rw [cutL_end h] at hy; cases hy
  · have hp := pc_bd (at' := at') hb h
    rw [cutL_step hb h] at hy
    rcases List.mem_cons.1 hy with rfl | hy
    · exact hp.1
    · exact ih y hy
theorem sp_pos {bar : Int} (hb : 1 ≤ bar) : ∀ (v : List Nt) (at' : Int), ∀ y ∈ spF bar at' v, 1 ≤ y.t
  | [], _, y, hy => by cases hy
  | x :: l, at', y, hy => by
    unfold spF at hy
    rcases List.mem_append.1 hy with hy | hy
    · exact cut_pos hb x _ _ y hy
    · exact sp_pos hb l _ y hy
theorem sp_append {bar : Int} : ∀ (u v : List Nt) (at' : Int), spF bar at' (u ++ v) = spF bar at' u ++ spF bar (at' + sumT u) v
  | [], v, at' => by simp [spF, sumT]
  | x :: u, v, at' => by
    simp only [List.cons_append, spF, sp_append u v, sumT, List.append_assoc]
    rw [show at' + x.t + sumT u = at' + (x.t + sumT u) by omega]
theorem sp_up {bar : Int} {v : List Nt} {k : Nat} {x : Nt} (hx : v[k]? = some x) : spL bar (v.take (k + 1)) = spL bar (v.take k) ++ cutL bar (sumT (v.take k)) x.t x := by
  unfold spL
  rw [List.take_add_one, hx, sp_append, Int.zero_add]
  simp [spF]
theorem sp_len {bar : Int} (hb : 1 ≤ bar) {v : List Nt} (h : ∀ x ∈ v, 0 ≤ x.t) : ((spL bar v).length : Int) ≤ sumT v := by
  have := len_sum _ (sp_pos hb v 0)
  rw [sp_sum hb v 0 h] at this
  exact this

/- Plain facts for chapter 6: divided notes are tied; divided again; their ties joined. -/

theorem tieB_cons2 {x : Nt} {l : List Nt} : tieB (x :: l) = true ↔ nvB x = true ∧ (x.y = true → ∃ z m, l = z :: m ∧ z.r = false ∧ toneB x z = true) ∧ tieB l = true := by
  cases l with
  | nil =>
    rw [tieB_one]
    constructor
    · exact fun ⟨h1, h2⟩ => ⟨h1, fun h => absurd (h2.symm.trans h) (by decide), rfl⟩
    · intro ⟨h1, h2, _⟩
      refine ⟨h1, ?_⟩
      cases hy : x.y with
      | false => rfl
      | true => obtain ⟨z, m, h, _⟩ := h2 hy; cases h
  | cons z m =>
    rw [tieB_cons]
    unfold linkB
    constructor
    · intro ⟨h1, h2, h3⟩
      refine ⟨h1, fun hy => ⟨z, m, rfl, ?_⟩, h3⟩
      simpa [hy] using h2
    · intro ⟨h1, h2, h3⟩
      refine ⟨h1, ?_, h3⟩
      cases hy : x.y with
      | false => rfl
      | true =>
        obtain ⟨z', m', e, h4, h5⟩ := h2 hy
        cases e
        simp [h4, h5]
theorem pc_more {bar at' left : Int} {x : Nt} (h : pcN bar at' left < left) : (pcX bar at' left x).y = !x.r := by
  unfold pcX
  have e1 : decide (0 < left - pcN bar at' left) = true := by simp; omega
  have e2 : (left - pcN bar at' left == 0) = false := by rw [beq_eq_false_iff_ne]; omega
  simp only [e1, e2, Bool.and_true, Bool.false_and, Bool.or_false]
theorem pc_last {bar at' left : Int} {x : Nt} (h : pcN bar at' left = left) : (pcX bar at' left x).y = x.y := by
  unfold pcX
  have e1 : decide (0 < left - pcN bar at' left) = false := by simp; omega
  have e2 : (left - pcN bar at' left == 0) = true := by rw [beq_iff_eq]; omega
  simp only [e1, e2, Bool.and_false, Bool.true_and, Bool.false_or]
theorem pc_nv {bar at' left : Int} {x : Nt} (hb : 1 ≤ bar) (hl : 1 ≤ left) (h9 : left ≤ 768) (hx : nvB x = true) : nvB (pcX bar at' left x) = true := by
  obtain ⟨h1, _, h3⟩ := nvB_iff.1 hx
  have hp := pc_bd (at' := at') hb hl
  refine nvB_iff.2 ⟨fun hr => ⟨?_, (h1 hr).2⟩, by show 1 ≤ pcN bar at' left ∧ _; simp only [pcX]; omega, h3⟩
  have hr' : x.r = true := hr
  by_cases h : pcN bar at' left < left
  · rw [pc_more h, hr']; rfl
  · rw [pc_last (by omega)]; exact (h1 hr').1
theorem cut_tie {bar : Int} (hb : 1 ≤ bar) (x : Nt) (hx : nvB x = true) (R : List Nt) (hR : tieB R = true) (hy : x.y = true → ∃ z m, R = z :: m ∧ z.r = false ∧ toneB x z = true) :
    ∀ at' left, left ≤ 768 → tieB (cutL bar at' left x ++ R) = true := by
  refine cut_ind hb (fun at' left h _ => ?_) (fun at' left h ih h9 => ?_)
  · rw [cutL_end h]; exact hR
  · have hp := pc_bd (at' := at') hb h
    rw [cutL_step hb h, List.cons_append]
    refine tieB_cons2.2 ⟨pc_nv hb h h9 hx, fun e => ?_, ih (by omega)⟩
    by_cases hm : pcN bar at' left < left
    · rw [pc_more hm] at e
      have hr : x.r = false := by simpa using e
      rw [cutL_step hb (show 1 ≤ left - pcN bar at' left by omega)]
      exact ⟨_, _, List.cons_append, hr, by simp [toneB, pcX]⟩
    · rw [pc_last (by omega)] at e
      obtain ⟨z, m, e1, e2, e3⟩ := hy e
      exact ⟨z, m, by rw [cutL_end (by omega), e1]; rfl, e2, e3⟩
theorem sp_tie {bar : Int} (hb : 1 ≤ bar) : ∀ (v : List Nt) (at' : Int), tieB v = true → tieB (spF bar at' v) = true
  | [], _, _ => rfl
  | x :: l, at', h => by
    obtain ⟨h1, h2, h3⟩ := tieB_cons2.1 h
    unfold spF
    refine cut_tie hb x h1 _ (sp_tie hb l _ h3) (fun hy => ?_) _ _ (nv_pos h1).2
    obtain ⟨z, m, rfl, e2, e3⟩ := h2 hy
    have hz := nv_pos (tieB_head h3)
    unfold spF
    rw [cutL_step hb hz.1]
    exact ⟨_, _, List.cons_append, e2, by simpa [toneB, pcX] using e3⟩

/-! ### Ties joined -/

theorem jo_cut1 {bar : Int} (hb : 1 ≤ bar) (x : Nt) (hr : x.r = false) (R : List Nt) :
    ∀ at' left, 1 ≤ left → ∀ c : Nt, c.y = true → c.t + left ≤ 768 → joF c (cutL bar at' left x ++ R) = joF { c with t := c.t + left, y := x.y } R := by
  refine cut_ind hb (fun at' left h h1 => by omega) (fun at' left h ih _ c hc h9 => ?_)
  have hp := pc_bd (at' := at') hb h
  rw [cutL_step hb h, List.cons_append, joF_yes ⟨hc, by simp only [pcX]; omega⟩]
  by_cases hm : pcN bar at' left < left
  · rw [ih (by omega) _ (by simp only [mergeN]; rw [pc_more hm, hr]; rfl) (by simp only [mergeN, pcX]; omega)]
    simp only [mergeN, pcX]
    rw [show c.t + pcN bar at' left + (left - pcN bar at' left) = c.t + left by omega]
  · rw [cutL_end (by omega)]
    simp only [mergeN, pc_last (show pcN bar at' left = left by omega), List.nil_append]
    simp only [pcX, show pcN bar at' left = left by omega]
theorem jo_cut2 {bar : Int} (hb : 1 ≤ bar) (x : Nt) (hr : x.r = false) (R : List Nt) (h1 : 1 ≤ x.t) (h9 : x.t ≤ 768) (at' : Int) : ∃ p L, cutL bar at' x.t x ++ R = p :: L ∧ joF p L = joF x R := by
  have hp := pc_bd (at' := at') hb h1
  refine ⟨_, _, by rw [cutL_step hb h1, List.cons_append], ?_⟩
  by_cases hm : pcN bar at' x.t < x.t
  · rw [jo_cut1 hb x hr R _ _ (by omega) _ (by rw [pc_more hm, hr]; rfl) (by simp only [pcX]; omega)]
    simp only [pcX]
    rw [show pcN bar at' x.t + (x.t - pcN bar at' x.t) = x.t by omega]
  · rw [cutL_end (by omega), List.nil_append]
    have e : pcX bar at' x.t x = x := by
      have h2 := pc_last (x := x) (show pcN bar at' x.t = x.t by omega)
      have h3 : (pcX bar at' x.t x).t = x.t := by show pcN bar at' x.t = x.t; omega
      have h4 : pcX bar at' x.t x = { x with t := (pcX bar at' x.t x).t, y := (pcX bar at' x.t x).y } := rfl
      rw [h4, h2, h3]
    rw [e]
theorem jo_sp {bar : Int} (hb : 1 ≤ bar) : ∀ (l : List Nt) (c : Nt) (at' : Int), (∀ x ∈ l, x.r = false ∧ 1 ≤ x.t ∧ x.t ≤ 768) → fO (if c.y = true then c.t else 0) l → joF c (spF bar at' l) = joF c l
  | [], _, _, _, _ => rfl
  | x :: l, c, at', h, hf => by
    obtain ⟨h1, h2, h3⟩ := h x (by simp)
    obtain ⟨f1, f2⟩ := hf
    unfold spF
    cases hc : c.y with
    | true =>
      rw [hc, if_pos rfl] at f1 f2
      rw [jo_cut1 hb x h1 _ _ _ h2 c hc (by omega), joF_yes ⟨hc, by omega⟩]
      exact jo_sp hb l (mergeN c x) _ (fun z hz => h z (by simp [hz])) f2
    | false =>
      rw [hc, show (if false = true then c.t else 0) = (0 : Int) from rfl, Int.zero_add] at f1 f2
      have hno : ∀ z : Nt, ¬ (c.y = true ∧ c.t + z.t ≤ 768) := fun z e => absurd (hc.symm.trans e.1) (by decide)
      obtain ⟨p, L, e1, e2⟩ := jo_cut2 hb x h1 (spF bar (at' + x.t) l) h2 h3 at'
      rw [e1, joF_no (hno p), e2, joF_no (hno x)]
      rw [jo_sp hb l x _ (fun z hz => h z (by simp [hz])) f2]
/-- joining the ties leads to what joining the ties of the voice leads to. -/
theorem joL_sp {bar : Int} (hb : 1 ≤ bar) {v : List Nt} (h : tieB v = true) (hr : ∀ x ∈ v, x.r = false) (hn : ∀ z ∈ joL v, z.y = false) : joL (spL bar v) = joL v := by
  cases v with
  | nil => rfl
  | cons x l =>
    have ha : ∀ z ∈ x :: l, z.r = false ∧ 1 ≤ z.t ∧ z.t ≤ 768 := fun z hz => by
      obtain ⟨i, hi⟩ := List.getElem?_of_mem hz
      exact ⟨hr z hz, nv_pos (tieB_at h hi)⟩
    obtain ⟨h1, h2, h3⟩ := ha x (by simp)
    obtain ⟨p, L, e1, e2⟩ := jo_cut2 hb x h1 (spF bar (0 + x.t) l) h2 h3 0
    show joL (spF bar 0 (x :: l)) = joF x l
    unfold spF
    rw [e1]
    show joF p L = _
    rw [e2]
    exact jo_sp hb l x _ (fun z hz => ha z (by simp [hz])) (jo_few l x h hn).1

/-! ### Divided again -/

theorem cutF_t {bar : Int} : ∀ (f : Nat) (at' left : Int) (x : Nt) (t : Int), cutF bar f at' left { x with t := t } = cutF bar f at' left x
  | 0, _, _, _, _ => rfl
  | f + 1, at', left, x, t => by
    unfold cutF
    rw [cutF_t f]
theorem cutL_t {bar at' left : Int} {x : Nt} {t : Int} : cutL bar at' left { x with t := t } = cutL bar at' left x := cutF_t _ _ _ _ _
theorem mod_far {beat at' n : Int} (hb : 1 ≤ beat) (hn : 1 ≤ n) (h : (at' + n) % beat = 0) : beat - at' % beat ≤ n := by
  have h1 := Int.emod_nonneg at' (show beat ≠ 0 by omega)
  have h2 : (at' % beat + n) % beat = 0 := by rw [Int.emod_add_emod]; exact h
  by_cases hlt : at' % beat + n < beat
  · rw [Int.emod_eq_of_lt (by omega) hlt] at h2; omega
  · omega
/-- divided at a point in between first. -/
theorem cut_split {beat : Int} (hb : 1 ≤ beat) (x : Nt) : ∀ at' n, 1 ≤ n → ∀ left, n ≤ left → (n < left → (at' + n) % beat = 0) →
    cutL beat at' left x = cutL beat at' n { x with y := if n < left then !x.r else x.y } ++ cutL beat (at' + n) (left - n) x := by
  refine cut_ind hb (fun at' n h h1 => by omega) (fun at' n h ih _ left hl hm => ?_)
  have hp := pc_bd (at' := at') hb h
  have hpe : pcN beat at' left = pcN beat at' n := by
    by_cases hlt : n < left
    · have := mod_far hb h (hm hlt)
      unfold pcN; omega
    · have : left = n := by omega
      rw [this]
  have hx : pcX beat at' left x = pcX beat at' n { x with y := if n < left then !x.r else x.y } := by
    have hy : (pcX beat at' left x).y = (pcX beat at' n { x with y := if n < left then !x.r else x.y }).y := by
      by_cases h1 : pcN beat at' n < n
      · rw [pc_more (by omega), pc_more h1]
      · have e : pcN beat at' n = n := by omega
        rw [pc_last e]
        show _ = if n < left then !x.r else x.y
        by_cases hlt : n < left
        · rw [if_pos hlt, pc_more (by omega)]
        · rw [if_neg hlt, pc_last (by omega)]
    unfold pcX at hy ⊢
    simp only [hpe] at hy ⊢
    rw [hy]
  rw [cutL_step hb (show 1 ≤ left by omega), cutL_step hb h, hx, hpe, List.cons_append]
  congr 1
  by_cases h1 : pcN beat at' n < n
  · have := ih (by omega) (left - pcN beat at' n) (by omega) (fun hlt => by rw [show at' + pcN beat at' n + (n - pcN beat at' n) = at' + n by omega]; exact hm (by omega))
    rw [this]
    have e : (n - pcN beat at' n < left - pcN beat at' n) = (n < left) := by rw [eq_iff_iff]; omega
    simp only [e]
    rw [show at' + pcN beat at' n + (n - pcN beat at' n) = at' + n by omega, show left - pcN beat at' n - (n - pcN beat at' n) = left - n by omega]
  · have e : pcN beat at' n = n := by omega
    rw [e, cutL_end (show n - n ≤ 0 by omega), List.nil_append]
theorem pc_mod {bar at' left : Int} (hb : 1 ≤ bar) (h : pcN bar at' left < left) : (at' + pcN bar at' left) % bar = 0 := by
  have e : pcN bar at' left = bar - at' % bar := by unfold pcN at h ⊢; omega
  rw [e]
  have := Int.mul_ediv_add_emod at' bar
  rw [show at' + (bar - at' % bar) = bar * (at' / bar + 1) by rw [Int.mul_add]; omega]
  exact Int.mul_emod_right _ _
theorem cut_cut {bar beat : Int} (hb : 1 ≤ bar) (he : 1 ≤ beat) (hd : beat ∣ bar) (x : Nt) : ∀ at' left, spF beat at' (cutL bar at' left x) = cutL beat at' left x := by
  refine cut_ind hb (fun at' left h => ?_) (fun at' left h ih => ?_)
  · rw [cutL_end h, cutL_end h]; rfl
  · have hp := pc_bd (at' := at') hb h
    rw [cutL_step hb h]
    show cutL beat at' (pcN bar at' left) (pcX bar at' left x) ++ spF beat (at' + pcN bar at' left) _ = _
    rw [ih, cut_split he x at' (pcN bar at' left) hp.1 left hp.2 (fun hlt => Int.emod_eq_zero_of_dvd (Int.dvd_trans hd (Int.dvd_of_emod_eq_zero (pc_mod hb hlt))))]
    congr 1
    have e : pcX bar at' left x = { ({ x with y := if pcN bar at' left < left then !x.r else x.y } : Nt) with t := pcN bar at' left } := by
      have hy : (pcX bar at' left x).y = if pcN bar at' left < left then !x.r else x.y := by
        by_cases hlt : pcN bar at' left < left
        · rw [if_pos hlt, pc_more hlt]
        · rw [if_neg hlt, pc_last (by omega)]
      rw [← hy]
      rfl
    rw [e, cutL_t]
/-- a voice divided at bars, and then at every beat, is the voice divided at every beat. -/
theorem sp_sp {bar beat : Int} (hb : 1 ≤ bar) (he : 1 ≤ beat) (hd : beat ∣ bar) : ∀ (v : List Nt) (at' : Int), (∀ x ∈ v, 0 ≤ x.t) → spF beat at' (spF bar at' v) = spF beat at' v
  | [], _, _ => rfl
  | x :: l, at', h => by
    have hx := h x (by simp)
    show spF beat at' (cutL bar at' x.t x ++ spF bar (at' + x.t) l) = cutL beat at' x.t x ++ spF beat (at' + x.t) l
    rw [sp_append, cut_cut hb he hd, cut_sum hb, if_pos hx, sp_sp hb he hd l _ (fun z hz => h z (by simp [hz]))]

/- Plain facts for chapter 6: what its functions answer. -/

/-- the voice can be divided at the bars of the meter. -/
def spB (v : List Nt) (b u : Int) : Bool := voB v && meB b u && decide ((spL (baZ b u) v).length ≤ 60)
def ssL (v : List Nt) (b u : Int) : List Nt := if spB v b u then spL (baZ b u) v else []
/-- how many bars a voice fills. -/
def bcN (v : List Nt) (b u : Int) : Int := (sumT v + baZ b u - 1) / baZ b u
def bcZ (v : List Nt) (b u : Int) : Int := if voB v && meB b u then bcN v b u else -1
/-- what is left of the last bar. -/
def lfN (v : List Nt) (b u : Int) : Int := bcN v b u * baZ b u - sumT v
def fiB (v : List Nt) (b u : Int) : Bool := voB v && meB b u && (lfN v b u == 0 || (decide (lfN v b u ≤ 768) && decide (v.length ≠ 60)))
def fiL (v : List Nt) (b u : Int) : List Nt := if fiB v b u then (if lfN v b u = 0 then v else v ++ [⟨true, 0, 0, 0, lfN v b u, false⟩]) else []

theorem spB_iff {v : List Nt} {b u : Int} : spB v b u = true ↔ voB v = true ∧ meB b u = true ∧ (spL (baZ b u) v).length ≤ 60 := by simp [spB, and_assoc]
theorem vo_pos {v : List Nt} (h : voB v = true) : ∀ x ∈ v, 0 ≤ x.t := fun x hx => by
  obtain ⟨i, hi⟩ := List.getElem?_of_mem hx
  have := nv_pos (tieB_at (voB_iff.1 h).1 hi)
  omega
theorem sum_bd {v : List Nt} (h : voB v = true) : (v.length : Int) ≤ sumT v ∧ sumT v ≤ 46080 := by
  obtain ⟨h1, h2⟩ := voB_iff.1 h
  have := sumT_pos h1
  omega
theorem sp_vo {v : List Nt} {b u : Int} (h : spB v b u = true) : voB (spL (baZ b u) v) = true := by
  obtain ⟨h1, h2, h3⟩ := spB_iff.1 h
  have hb := ba_bd h2
  exact voB_iff.2 ⟨sp_tie (by omega) v 0 (voB_iff.1 h1).1, h3⟩
theorem vt_sp {v : List Nt} {b u : Int} (h : spB v b u = true) : vtZ (spL (baZ b u) v) = vtZ v := by
  obtain ⟨h1, h2, _⟩ := spB_iff.1 h
  have hb := ba_bd h2
  unfold vtZ
  rw [sp_vo h, h1]
  exact sp_sum (by omega) v 0 (vo_pos h1)
/-- divided again at the same bars it stays. -/
theorem sp_again {v : List Nt} {b u : Int} (h : spB v b u = true) : spB (spL (baZ b u) v) b u = true ∧ spL (baZ b u) (spL (baZ b u) v) = spL (baZ b u) v := by
  obtain ⟨h1, h2, h3⟩ := spB_iff.1 h
  have hb := ba_bd h2
  have e : spL (baZ b u) (spL (baZ b u) v) = spL (baZ b u) v := sp_sp (by omega) (by omega) (Int.dvd_refl _) v 0 (vo_pos h1)
  exact ⟨spB_iff.2 ⟨sp_vo h, h2, by rw [e]; exact h3⟩, e⟩
theorem me_beat {b u : Int} (h : meB b u = true) : meB 1 u = true ∧ baZ 1 u = beZ u ∧ beZ u ∣ baZ b u := by
  obtain ⟨_, hu⟩ := meB_iff.1 h
  have h1 : meB 1 u = true := meB_iff.2 ⟨by omega, hu⟩
  refine ⟨h1, by rw [ba_be h1, Int.one_mul], ?_⟩
  rw [ba_be h]
  exact ⟨b, Int.mul_comm _ _⟩
/-- the bars have room for the voice, and one less has not. -/
theorem bc_bd {v : List Nt} {b u : Int} (h1 : voB v = true) (h2 : meB b u = true) : 0 ≤ bcN v b u ∧ bcN v b u ≤ 4000 ∧ sumT v ≤ bcN v b u * baZ b u ∧ bcN v b u * baZ b u < sumT v + baZ b u := by
  have hb := ba_bd h2
  have hs := sum_bd h1
  have e := Int.mul_ediv_add_emod (sumT v + baZ b u - 1) (baZ b u)
  have m0 := Int.emod_nonneg (sumT v + baZ b u - 1) (show baZ b u ≠ 0 by omega)
  have m1 := Int.emod_lt_of_pos (sumT v + baZ b u - 1) (show 0 < baZ b u by omega)
  have q0 : 0 ≤ bcN v b u := Int.ediv_nonneg (by omega) (by omega)
  have e2 : baZ b u * bcN v b u + (sumT v + baZ b u - 1) % baZ b u = sumT v + baZ b u - 1 := e
  rw [Int.mul_comm] at e2
  refine ⟨q0, ?_, by omega, by omega⟩
  have h3 : bcN v b u * 12 ≤ bcN v b u * baZ b u := Int.mul_le_mul_of_nonneg_left (by omega) q0
  omega
theorem lf_bd {v : List Nt} {b u : Int} (h1 : voB v = true) (h2 : meB b u = true) : 0 ≤ lfN v b u ∧ lfN v b u < baZ b u := by
  have := bc_bd h1 h2
  unfold lfN
  omega
theorem bc_zero {v : List Nt} {b u : Int} (h1 : voB v = true) (h2 : meB b u = true) (h : bcN v b u = 0) : sumT v = 0 := by
  have hb := bc_bd h1 h2
  have hs := sum_bd h1
  rw [h] at hb
  omega
theorem bc_less {v : List Nt} {b u : Int} (h1 : voB v = true) (h2 : meB b u = true) : (bcN v b u - 1) * baZ b u < sumT v := by
  have hb := bc_bd h1 h2
  rw [Int.sub_mul, Int.one_mul]
  omega

/- Plain facts for chapter 6's promises. -/

/-- the bar, the beat and the ticks together are the tick. -/
theorem be_all {b u t : Int} (h : meB b u = true) (h0 : 0 ≤ t) : 0 ≤ t / baZ b u ∧ t / baZ b u * baZ b u ≤ t ∧ 0 ≤ t % baZ b u / beZ u ∧ t % baZ b u / beZ u < b ∧ 0 ≤ t % beZ u ∧ t % beZ u < beZ u ∧
    0 ≤ t % baZ b u / beZ u * beZ u ∧ t / baZ b u * baZ b u + t % baZ b u / beZ u * beZ u ≤ t ∧ t / baZ b u * baZ b u + t % baZ b u / beZ u * beZ u + t % beZ u = t := by
  have hb := ba_bd h
  have hc := be_bd h
  have hd := (me_beat h).2.2
  have e := ba_be h
  have m0 := Int.emod_nonneg t (show baZ b u ≠ 0 by omega)
  have m1 := Int.emod_lt_of_pos t (show 0 < baZ b u by omega)
  have m2 := Int.emod_nonneg t (show beZ u ≠ 0 by omega)
  have m3 := Int.emod_lt_of_pos t (show 0 < beZ u by omega)
  have a1 := Int.mul_ediv_add_emod t (baZ b u)
  have a2 := Int.mul_ediv_add_emod (t % baZ b u) (beZ u)
  have a3 := Int.emod_emod_of_dvd t hd
  rw [a3] at a2
  rw [Int.mul_comm] at a1 a2
  have d0 := Int.ediv_nonneg h0 (show 0 ≤ baZ b u by omega)
  have d1 := Int.ediv_nonneg m0 (show 0 ≤ beZ u by omega)
  have d2 : t % baZ b u / beZ u < b := Int.ediv_lt_of_lt_mul (by omega) (by rw [← e]; exact m1)
  have d3 := Int.mul_nonneg d1 (show 0 ≤ beZ u by omega)
  refine ⟨d0, by omega, d1, d2, m2, m3, d3, by omega, by omega⟩

theorem inBars_at {bar : Int} : ∀ {l : List Nt} {at' : Int}, inBars bar at' l → ∀ (k : Nat) (x : Nt), l[k]? = some x → (at' + sumT (l.take k)) / bar = (at' + sumT (l.take k) + x.t - 1) / bar
  | [], _, _, _, _, h => by simp at h
  | z :: l, at', h, 0, x, hx => by
    simp at hx
    subst hx
    simpa [sumT] using h.1
  | z :: l, at', h, k + 1, x, hx => by
    have := inBars_at h.2 k x (by simpa using hx)
    simp only [List.take_succ_cons, sumT]
    rw [← Int.add_assoc]
    exact this

theorem tieB_snoc {z : Nt} (hz : nvB z = true) (hy : z.y = false) : ∀ {v : List Nt}, tieB v = true → tieB (v ++ [z]) = true
  | [], _ => tieB_one.2 ⟨hz, hy⟩
  | x :: l, h => by
    obtain ⟨h1, h2, h3⟩ := tieB_cons2.1 h
    rw [List.cons_append]
    refine tieB_cons2.2 ⟨h1, fun hx => ?_, tieB_snoc hz hy h3⟩
    obtain ⟨z', m, rfl, h4, h5⟩ := h2 hx
    exact ⟨z', m ++ [z], rfl, h4, h5⟩
/-- what is filled is full, and stays so. -/
theorem fi_ok {v : List Nt} {b u : Int} (h : fiB v b u = true) : voB (fiL v b u) = true ∧ vtZ (fiL v b u) = bcN v b u * baZ b u ∧ fiB (fiL v b u) b u = true ∧ fiL (fiL v b u) b u = fiL v b u ∧ v.length ≤ (fiL v b u).length ∧ (fiL v b u).length ≤ v.length + 1 := by
  have hh := h
  unfold fiB at hh
  rw [Bool.and_eq_true, Bool.and_eq_true] at hh
  obtain ⟨⟨h1, h2⟩, h3⟩ := hh
  have hb := ba_bd h2
  have hl := lf_bd h1 h2
  by_cases h0 : lfN v b u = 0
  · have e : fiL v b u = v := by unfold fiL; rw [h, if_pos rfl, if_pos h0]
    rw [e]
    refine ⟨h1, ?_, h, e, Nat.le_refl _, by omega⟩
    unfold vtZ
    rw [h1, if_pos rfl]
    unfold lfN at h0
    omega
  · have e : fiL v b u = v ++ [⟨true, 0, 0, 0, lfN v b u, false⟩] := by unfold fiL; rw [h, if_pos rfl, if_neg h0]
    have h5 : lfN v b u ≤ 768 ∧ v.length ≠ 60 := by simpa [h0] using h3
    obtain ⟨t1, t2⟩ := voB_iff.1 h1
    have hn : nvB (⟨true, 0, 0, 0, lfN v b u, false⟩ : Nt) = true := nvB_iff.2 ⟨fun _ => ⟨rfl, rfl, rfl, rfl⟩, by simp only; omega, (show pvB 0 0 0 = true by decide)⟩
    have hv : voB (v ++ [⟨true, 0, 0, 0, lfN v b u, false⟩]) = true := voB_iff.2 ⟨tieB_snoc hn rfl t1, by simp; omega⟩
    have hs : sumT (v ++ [(⟨true, 0, 0, 0, lfN v b u, false⟩ : Nt)]) = bcN v b u * baZ b u := by
      rw [sumT_append]; simp only [sumT, lfN]; omega
    have hc : bcN (v ++ [⟨true, 0, 0, 0, lfN v b u, false⟩]) b u = bcN v b u := by
      unfold bcN at hs ⊢
      rw [hs]
      rw [show (sumT v + baZ b u - 1) / baZ b u * baZ b u + baZ b u - 1 = (baZ b u - 1) + baZ b u * ((sumT v + baZ b u - 1) / baZ b u) by rw [Int.mul_comm]; omega]
      rw [Int.add_mul_ediv_left _ _ (by omega), Int.ediv_eq_zero_of_lt (by omega) (by omega), Int.zero_add]
    have hf : lfN (v ++ [⟨true, 0, 0, 0, lfN v b u, false⟩]) b u = 0 := by
      have : lfN (v ++ [⟨true, 0, 0, 0, lfN v b u, false⟩]) b u = bcN (v ++ [⟨true, 0, 0, 0, lfN v b u, false⟩]) b u * baZ b u - sumT (v ++ [⟨true, 0, 0, 0, lfN v b u, false⟩]) := rfl
      rw [this, hc, hs]; omega
    have hfb : fiB (v ++ [⟨true, 0, 0, 0, lfN v b u, false⟩]) b u = true := by unfold fiB; rw [hv, h2, hf]; rfl
    rw [e]
    refine ⟨hv, ?_, hfb, ?_, by simp, by simp⟩
    · unfold vtZ; rw [hv, if_pos rfl, hs]
    · unfold fiL; rw [hfb, if_pos rfl, if_pos hf]
end Go.Proofs.YtcifmpjefhichabDoor
