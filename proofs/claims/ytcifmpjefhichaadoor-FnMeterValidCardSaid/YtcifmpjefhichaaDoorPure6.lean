/- Plain facts for chapter 6: meters; notes divided at the ends of bars. -/
import Derived.Test.YtcifmpjefhichaaDoorPure5
namespace Go.Proofs.YtcifmpjefhichaaDoor
set_option linter.unusedSimpArgs false
set_option linter.unusedVariables false

/-- the meter is valid. -/
def meB (b u : Int) : Bool := inB b 1 12 && (u == 2 || u == 4 || u == 8 || u == 16)
theorem meB_iff {b u : Int} : meB b u = true ↔ (1 ≤ b ∧ b ≤ 12) ∧ (u = 2 ∨ u = 4 ∨ u = 8 ∨ u = 16) := by
  unfold meB
  rw [Bool.and_eq_true, inB_iff]
  simp [or_assoc]
/-- the ticks of a beat; of a bar. -/
def beZ (u : Int) : Int := 192 / u
def baZ (b u : Int) : Int := b * 192 / u
theorem be_cases {b u : Int} (h : meB b u = true) : (u = 2 ∧ beZ u = 96 ∧ baZ b u = b * 96) ∨ (u = 4 ∧ beZ u = 48 ∧ baZ b u = b * 48) ∨ (u = 8 ∧ beZ u = 24 ∧ baZ b u = b * 24) ∨ (u = 16 ∧ beZ u = 12 ∧ baZ b u = b * 12) := by
  obtain ⟨_, rfl | rfl | rfl | rfl⟩ := meB_iff.1 h
  · exact Or.inl ⟨rfl, rfl, by unfold baZ; omega⟩
  · exact Or.inr (Or.inl ⟨rfl, rfl, by unfold baZ; omega⟩)
  · exact Or.inr (Or.inr (Or.inl ⟨rfl, rfl, by unfold baZ; omega⟩))
  · exact Or.inr (Or.inr (Or.inr ⟨rfl, rfl, by unfold baZ; omega⟩))
theorem ba_be {b u : Int} (h : meB b u = true) : baZ b u = b * beZ u := by
  rcases be_cases h with ⟨_, e1, e2⟩ | ⟨_, e1, e2⟩ | ⟨_, e1, e2⟩ | ⟨_, e1, e2⟩ <;> rw [e1, e2]
theorem be_bd {b u : Int} (h : meB b u = true) : 12 ≤ beZ u ∧ beZ u ≤ 96 := by
  rcases be_cases h with ⟨_, e1, e2⟩ | ⟨_, e1, e2⟩ | ⟨_, e1, e2⟩ | ⟨_, e1, e2⟩ <;> omega
theorem ba_bd {b u : Int} (h : meB b u = true) : 12 ≤ baZ b u ∧ baZ b u ≤ 1152 := by
  obtain ⟨⟨h1, h2⟩, _⟩ := meB_iff.1 h
  rcases be_cases h with ⟨_, e1, e2⟩ | ⟨_, e1, e2⟩ | ⟨_, e1, e2⟩ | ⟨_, e1, e2⟩ <;> omega
def btZ (b u : Int) : Int := if meB b u then baZ b u else -1

/-! ### Notes divided -/

/-- a note at a tick, divided at the ends of bars: as many of its ticks as are left. -/
def cutF (bar : Int) : Nat → Int → Int → Nt → List Nt
  | 0, _, _, _ => []
  | f + 1, at', left, x => if left ≤ 0 then [] else
      { x with t := min left (bar - at' % bar), y := (!x.r && decide (0 < left - min left (bar - at' % bar))) || (left - min left (bar - at' % bar) == 0 && x.y) } :: cutF bar f (at' + min left (bar - at' % bar)) (left - min left (bar - at' % bar)) x
/-- the piece at a tick. -/
def pcN (bar at' left : Int) : Int := min left (bar - at' % bar)
def pcX (bar at' left : Int) (x : Nt) : Nt := { x with t := pcN bar at' left, y := (!x.r && decide (0 < left - pcN bar at' left)) || (left - pcN bar at' left == 0 && x.y) }
theorem pc_bd {bar at' left : Int} (hb : 1 ≤ bar) (hl : 1 ≤ left) : 1 ≤ pcN bar at' left ∧ pcN bar at' left ≤ left := by
  have := Int.emod_lt_of_pos at' (show 0 < bar by omega)
  unfold pcN
  omega
theorem cutF_step {bar : Int} {f : Nat} {at' left : Int} {x : Nt} (hl : 1 ≤ left) : cutF bar (f + 1) at' left x = pcX bar at' left x :: cutF bar f (at' + pcN bar at' left) (left - pcN bar at' left) x := by
  rw [cutF, if_neg (by omega)]
  rfl
theorem cutF_end {bar : Int} {f : Nat} {at' left : Int} {x : Nt} (hl : left ≤ 0) : cutF bar f at' left x = [] := by
  cases f with
  | zero => rfl
  | succ f => rw [cutF, if_pos hl]
theorem cutF_fuel {bar : Int} (hb : 1 ≤ bar) : ∀ (f g : Nat) (at' left : Int) (x : Nt), left ≤ f → left ≤ g → cutF bar f at' left x = cutF bar g at' left x
  | 0, g, at', left, x, h, _ => by rw [cutF_end (by omega), cutF_end (by omega)]
  | f + 1, 0, at', left, x, _, h => by rw [cutF_end (by omega), cutF_end (by omega)]
  | f + 1, g + 1, at', left, x, h1, h2 => by
    by_cases hl : 1 ≤ left
    · have := pc_bd (at' := at') hb hl
      rw [cutF_step hl, cutF_step hl, cutF_fuel hb f g _ _ _ (by omega) (by omega)]
    · rw [cutF_end (by omega), cutF_end (by omega)]
/-- the pieces of a note. -/
def cutL (bar at' left : Int) (x : Nt) : List Nt := cutF bar left.toNat at' left x
theorem cutL_step {bar at' left : Int} {x : Nt} (hb : 1 ≤ bar) (hl : 1 ≤ left) : cutL bar at' left x = pcX bar at' left x :: cutL bar (at' + pcN bar at' left) (left - pcN bar at' left) x := by
  have := pc_bd (at' := at') hb hl
  unfold cutL
  rw [show left.toNat = (left.toNat - 1) + 1 by omega, cutF_step hl, cutF_fuel hb (left.toNat - 1) (left - pcN bar at' left).toNat _ _ _ (by omega) (by omega)]
theorem cutL_end {bar at' left : Int} {x : Nt} (hl : left ≤ 0) : cutL bar at' left x = [] := cutF_end hl
/-- by the ticks that are left. -/
theorem cut_ind {bar : Int} (hb : 1 ≤ bar) {P : Int → Int → Prop} (h0 : ∀ at' left, left ≤ 0 → P at' left)
    (h1 : ∀ at' left, 1 ≤ left → P (at' + pcN bar at' left) (left - pcN bar at' left) → P at' left) : ∀ at' left, P at' left := by
  have key : ∀ (f : Nat) (at' left : Int), left ≤ f → P at' left := by
    intro f
    induction f with
    | zero => intro at' left h; exact h0 _ _ (by omega)
    | succ f ih =>
      intro at' left h
      by_cases hl : 1 ≤ left
      · have := pc_bd (at' := at') hb hl
        exact h1 _ _ hl (ih _ _ (by omega))
      · exact h0 _ _ (by omega)
  intro at' left
  exact key left.toNat at' left (by omega)
/-- all notes divided, from a tick on; a voice. -/
def spF (bar : Int) : Int → List Nt → List Nt
  | _, [] => []
  | at', x :: l => cutL bar at' x.t x ++ spF bar (at' + x.t) l
def spL (bar : Int) (v : List Nt) : List Nt := spF bar 0 v
theorem cut_sum {bar : Int} (hb : 1 ≤ bar) (x : Nt) : ∀ at' left, sumT (cutL bar at' left x) = if 0 ≤ left then left else 0 := by
  refine cut_ind hb (fun at' left h => ?_) (fun at' left h ih => ?_)
  · rw [cutL_end h]; simp only [sumT]; split <;> omega
  · have := pc_bd (at' := at') hb h
    rw [cutL_step hb h, if_pos (by omega)]
    simp only [sumT, ih, pcX]
    rw [if_pos (by omega)]; omega
theorem sp_sum {bar : Int} (hb : 1 ≤ bar) : ∀ (v : List Nt) (at' : Int), (∀ x ∈ v, 0 ≤ x.t) → sumT (spF bar at' v) = sumT v
  | [], _, _ => rfl
  | x :: l, at', h => by
    unfold spF
    rw [sumT_append, cut_sum hb, if_pos (h x (by simp)), sp_sum hb l _ (fun z hz => h z (by simp [hz]))]
    rfl
/-- no note goes beyond the end of a bar. -/
def inBars (bar : Int) : Int → List Nt → Prop
  | _, [] => True
  | at', x :: l => at' / bar = (at' + x.t - 1) / bar ∧ inBars bar (at' + x.t) l
theorem inBars_append {bar : Int} : ∀ (u : List Nt) (v : List Nt) (at' : Int), inBars bar at' (u ++ v) ↔ inBars bar at' u ∧ inBars bar (at' + sumT u) v
  | [], v, at' => by simp [inBars, sumT]
  | x :: u, v, at' => by
    simp only [List.cons_append, inBars, inBars_append u v, sumT, and_assoc]
    rw [show at' + x.t + sumT u = at' + (x.t + sumT u) by omega]
theorem pc_in {bar at' left : Int} (hb : 1 ≤ bar) (h0 : 0 ≤ at') (hl : 1 ≤ left) : at' / bar = (at' + pcN bar at' left - 1) / bar := by
  have h1 := Int.emod_nonneg at' (show bar ≠ 0 by omega)
  have h2 := Int.emod_lt_of_pos at' (show 0 < bar by omega)
  have h3 := Int.mul_ediv_add_emod at' bar
  have hp := pc_bd (at' := at') hb hl
  have hp2 : pcN bar at' left ≤ bar - at' % bar := by unfold pcN; omega
  generalize pcN bar at' left = p at *
  generalize hq : at' / bar = q at *
  generalize at' % bar = r at *
  rw [show at' + p - 1 = (r + p - 1) + bar * q by omega, Int.add_mul_ediv_left _ _ (by omega), Int.ediv_eq_zero_of_lt (by omega) (by omega)]
  omega
theorem cut_in {bar : Int} (hb : 1 ≤ bar) (x : Nt) : ∀ at' left, 0 ≤ at' → inBars bar at' (cutL bar at' left x) := by
  refine cut_ind hb (fun at' left h _ => ?_) (fun at' left h ih h0 => ?_)
  · rw [cutL_end h]; trivial
  · have := pc_bd (at' := at') hb h
    rw [cutL_step hb h]
    exact ⟨pc_in hb h0 h, ih (by omega)⟩
theorem sp_in {bar : Int} (hb : 1 ≤ bar) : ∀ (v : List Nt) (at' : Int), (∀ x ∈ v, 0 ≤ x.t) → 0 ≤ at' → inBars bar at' (spF bar at' v)
  | [], _, _, _ => trivial
  | x :: l, at', h, h0 => by
    have hx := h x (by simp)
    unfold spF
    rw [inBars_append, cut_sum hb, if_pos hx]
    exact ⟨cut_in hb x _ _ h0, sp_in hb l _ (fun z hz => h z (by simp [hz])) (by omega)⟩

/-! ### How many pieces -/

theorem len_sum : ∀ (l : List Nt), (∀ x ∈ l, 1 ≤ x.t) → (l.length : Int) ≤ sumT l
  | [], _ => by simp [sumT]
  | x :: l, h => by
    have h1 := h x (by simp)
    have h2 := len_sum l (fun z hz => h z (by simp [hz]))
    simp only [List.length_cons, sumT]
    omega
theorem cut_pos {bar : Int} (hb : 1 ≤ bar) (x : Nt) : ∀ at' left, ∀ y ∈ cutL bar at' left x, 1 ≤ y.t := by
  refine cut_ind hb (fun at' left h y hy => ?_) (fun at' left h ih y hy => ?_)
  · rw [cutL_end h] at hy; cases hy
  · have hp := pc_bd (at' := at') hb h
    rw [cutL_step hb h] at hy
    rcases List.mem_cons.1 hy with rfl | hy
    · exact hp.1
    · exact ih y hy
theorem sp_pos {bar : Int} (hb : 1 ≤ bar) : ∀ (v : List Nt) (at' : Int), ∀ y ∈ spF bar at' v, 1 ≤ y.t
  | [], _, y, hy => by cases hy
  | x :: l, at', y, hy => by
    unfold spF at hy
    rcases List.mem_append.1 hy with hy | hy
    · exact cut_pos hb x _ _ y hy
    · exact sp_pos hb l _ y hy
theorem sp_append {bar : Int} : ∀ (u v : List Nt) (at' : Int), spF bar at' (u ++ v) = spF bar at' u ++ spF bar (at' + sumT u) v
  | [], v, at' => by simp [spF, sumT]
  | x :: u, v, at' => by
    simp only [List.cons_append, spF, sp_append u v, sumT, List.append_assoc]
    rw [show at' + x.t + sumT u = at' + (x.t + sumT u) by omega]
theorem sp_up {bar : Int} {v : List Nt} {k : Nat} {x : Nt} (hx : v[k]? = some x) : spL bar (v.take (k + 1)) = spL bar (v.take k) ++ cutL bar (sumT (v.take k)) x.t x := by
  unfold spL
  rw [List.take_add_one, hx, sp_append, Int.zero_add]
  simp [spF]
theorem sp_len {bar : Int} (hb : 1 ≤ bar) {v : List Nt} (h : ∀ x ∈ v, 0 ≤ x.t) : ((spL bar v).length : Int) ≤ sumT v := by
  have := len_sum _ (sp_pos hb v 0)
  rw [sp_sum hb v 0 h] at this
  exact this
end Go.Proofs.YtcifmpjefhichaaDoor
