/- Plain facts for chapter 11: chords of keys, degrees of chords, progressions, cadences. -/
import Derived.Test.YtcgcnkddgihkpaaDoorPure10
import Derived.Test.YtcgcnkddgihkpaaDoorPure1
namespace Go.Proofs.YtcgcnkddgihkpaaDoor
set_option linter.unusedSimpArgs false
set_option linter.unusedVariables false
set_option maxRecDepth 8000

/-- The pitch of a key at a place. -/
def plP (f p : Int) : Pt := ⟨p % 7, altZ f (p % 7), p / 7⟩
def stL (sv : Bool) : List Int := if sv then [0, 2, 4, 6] else [0, 2, 4]
/-- The chord on a degree. -/
def coB (f d : Int) : Bool := keyB f && inB d 0 6
def coL (f : Int) (m : Bool) (d : Int) (sv : Bool) : List Pt := if coB f d then (stL sv).map fun k => plP f (28 + tonZ f m + d + k) else []
theorem coL_len (f : Int) (m : Bool) (d : Int) (sv : Bool) : (coL f m d sv).length ≤ 4 := by
  unfold coL
  split
  · rw [List.length_map]; unfold stL; split <;> simp
  · simp
theorem plP_ok {f p : Int} (h0 : 0 ≤ p) (h1 : p ≤ 62) : pvP (plP f p) = true := by
  have := altZ_bd f (p % 7)
  rw [pvP_iff]
  unfold plP
  dsimp only
  omega
theorem coL_all (f : Int) (m : Bool) (d : Int) (sv : Bool) : (coL f m d sv).all pvP = true := by
  unfold coL
  split
  · rename_i h
    have hd := inB_iff.1 ((Bool.and_eq_true _ _ ▸ (h : (keyB f && inB d 0 6) = true)).2)
    have ht := tonZ_bd f m
    rw [List.all_map, List.all_eq_true]
    intro k hk
    refine plP_ok ?_ ?_ <;> (unfold stL at hk; split at hk <;> simp at hk <;> omega)
  · rfl
/-- The pitches are exactly the chord, by classes. -/
def fitB (l t : List Pt) : Bool := l.all (fun x => pvP x && hasB t x) && t.all (hasB l)
/-- The degree on which pitches are a chord. -/
def dgF (f : Int) (m : Bool) (l : List Pt) (d : Int) : Option Int := if fitB l (coL f m d false) || fitB l (coL f m d true) then some d else none
def degL : List Int := [0, 1, 2, 3, 4, 5, 6]
def dcZ (f : Int) (m : Bool) (l : List Pt) : Int := if keyB f && (decide (1 ≤ l.length) && decide (l.length ≤ 12)) then (degL.findSome? (dgF f m l)).getD (-1) else -1
/-- A degree that must not follow. -/
def badB (a b : Int) : Bool := (a == 4 || a == 6) && (b == 1 || b == 3)
def pfF : Nat → List Int → Int
  | _, [] => -1
  | _, [_] => -1
  | k, a :: b :: l => if badB a b then k else pfF (k + 1) (b :: l)
def pfZ (l : List Int) : Int := if l.all (fun d => inB d 0 6) then pfF 1 l else -1
/-- The cadence of the last two. -/
def cdB (a b : Int) : Int := if a = 4 ∧ b = 0 then 1 else if a = 3 ∧ b = 0 then 2 else if a = 4 ∧ b = 5 then 3 else if b = 4 ∧ a ≠ 4 then 4 else 0
def cdZ (l : List Int) : Int := if l.length < 2 then 0 else cdB (l.getD (l.length - 2) 0) (l.getD (l.length - 1) 0)

/-- The chord by classes depends on its step alone. -/
def csL (f s : Int) (sv : Bool) : List (Int × Int) := (stL sv).map fun k => ((s + k) % 7, altZ f ((s + k) % 7))
theorem coL_cl {f d : Int} (m : Bool) (sv : Bool) (h : coB f d = true) : (coL f m d sv).map cl2 = csL f ((tonZ f m + d) % 7) sv := by
  unfold coL csL
  rw [if_pos h, List.map_map]
  refine List.map_congr_left fun k _ => ?_
  show (((28 + tonZ f m + d + k) % 7, altZ f ((28 + tonZ f m + d + k) % 7)) : Int × Int) = _
  rw [show (28 + tonZ f m + d + k) % 7 = ((tonZ f m + d) % 7 + k) % 7 by omega]
def nmdB (f s : Int) (sv : Bool) : Bool := (rkC (csL f s sv)).isSome
theorem nmd_all : ((List.range 15).all fun f => (List.range 7).all fun s => nmdB ((f : Int) - 7) s true && nmdB ((f : Int) - 7) s false) = true := by decide +kernel

/- Plain facts for chapter 11: the promises. -/

def fiC (cs ds : List (Int × Int)) : Bool := cs.all (fun y => ds.any fun z => z.1 == y.1 && z.2 == y.2) && ds.all fun y => cs.any fun z => z.1 == y.1 && z.2 == y.2
theorem hasB_cl (t : List Pt) (y : Pt) : hasB t y = (t.map cl2).any fun z => z.1 == (cl2 y).1 && z.2 == (cl2 y).2 := by
  rw [← any_cl t fun z => z.1 == (cl2 y).1 && z.2 == (cl2 y).2]; rfl
theorem all_has (t u : List Pt) : u.all (hasB t) = (u.map cl2).all fun y => (t.map cl2).any fun z => z.1 == y.1 && z.2 == y.2 := by
  rw [← all_cl u fun y => (t.map cl2).any fun z => z.1 == y.1 && z.2 == y.2]
  congr 1
  funext y
  exact hasB_cl t y
theorem all_and {α : Type} (p q : α → Bool) (l : List α) : (l.all fun x => p x && q x) = (l.all p && l.all q) := by
  induction l with
  | nil => rfl
  | cons x l ih => simp only [List.all_cons, ih]; cases p x <;> cases q x <;> cases l.all p <;> simp
theorem fitB_cl (l t : List Pt) : fitB l t = (l.all pvP && fiC (l.map cl2) (t.map cl2)) := by
  unfold fitB fiC
  rw [all_and, all_has, all_has, Bool.and_assoc]
theorem fiC_all : ((List.range 15).all fun f => (List.range 7).all fun s => (List.range 7).all fun e => [true, false].all fun a => [true, false].all fun b => fiC (csL ((f : Int) - 7) s a) (csL ((f : Int) - 7) e b) == (s == e && a == b)) = true := by decide +kernel
theorem fiC_at {f s e : Int} (a b : Bool) (f0 : -7 ≤ f) (f1 : f ≤ 7) (s0 : 0 ≤ s) (s1 : s < 7) (e0 : 0 ≤ e) (e1 : e < 7) : fiC (csL f s a) (csL f e b) = (decide (s = e) && a == b) := by
  obtain ⟨g, rfl⟩ : ∃ g : Nat, f = (g : Int) - 7 := ⟨(f + 7).toNat, by omega⟩
  obtain ⟨p, rfl⟩ : ∃ g : Nat, s = g := ⟨s.toNat, by omega⟩
  obtain ⟨q, rfl⟩ : ∃ g : Nat, e = g := ⟨e.toNat, by omega⟩
  have h := List.all_eq_true.1 (List.all_eq_true.1 (List.all_eq_true.1 (List.all_eq_true.1 (List.all_eq_true.1 fiC_all g (List.mem_range.2 (by omega))) p (List.mem_range.2 (by omega))) q (List.mem_range.2 (by omega))) a (by cases a <;> simp)) b (by cases b <;> simp)
  rw [beq_iff_eq] at h
  rw [h]
  congr 1
  rw [Bool.eq_iff_iff]
  simp
  omega
/-- A chord of a key is found on its degree. -/
theorem dc_chord {f d : Int} (m : Bool) (sv : Bool) (h : coB f d = true) : dcZ f m (coL f m d sv) = d := by
  have hk : keyB f = true ∧ inB d 0 6 = true := by unfold coB at h; rwa [Bool.and_eq_true] at h
  obtain ⟨f0, f1⟩ := keyB_iff.1 hk.1
  obtain ⟨d0, d6⟩ := inB_iff.1 hk.2
  have hl : 1 ≤ (coL f m d sv).length ∧ (coL f m d sv).length ≤ 12 := by
    have := coL_len f m d sv
    refine ⟨?_, by omega⟩
    unfold coL
    rw [if_pos h, List.length_map]
    unfold stL
    split <;> simp
  have tb := tonZ_bd f m
  have hE : ∀ e : Int, 0 ≤ e → e ≤ 6 → dgF f m (coL f m d sv) e = if e = d then some e else none := fun e e0 e6 => by
    have hce : coB f e = true := by unfold coB; rw [hk.1, inB_iff.2 ⟨e0, e6⟩]; rfl
    unfold dgF
    rw [fitB_cl, fitB_cl, coL_all, coL_cl m sv h, coL_cl m false hce, coL_cl m true hce, Bool.true_and, Bool.true_and,
      fiC_at sv false f0 f1 (by omega) (by omega) (by omega) (by omega), fiC_at sv true f0 f1 (by omega) (by omega) (by omega) (by omega)]
    by_cases hed : e = d
    · subst hed
      rw [if_pos rfl, decide_eq_true rfl]
      cases sv <;> rfl
    · rw [if_neg hed, decide_eq_false (by omega)]
      rfl
  unfold dcZ
  rw [hk.1, decide_eq_true hl.1, decide_eq_true hl.2]
  show ((degL.findSome? (dgF f m (coL f m d sv))).getD (-1)) = d
  unfold degL
  simp only [List.findSome?_cons, List.findSome?_nil, hE 0 (by omega) (by omega), hE 1 (by omega) (by omega), hE 2 (by omega) (by omega), hE 3 (by omega) (by omega), hE 4 (by omega) (by omega), hE 5 (by omega) (by omega), hE 6 (by omega) (by omega)]
  obtain rfl | rfl | rfl | rfl | rfl | rfl | rfl : d = 0 ∨ d = 1 ∨ d = 2 ∨ d = 3 ∨ d = 4 ∨ d = 5 ∨ d = 6 := by omega
  all_goals rfl
/-- A chord of a key has a name. -/
theorem co_named {f d : Int} (m : Bool) (sv : Bool) (h : coB f d = true) : (nmZ (coL f m d sv)).isSome = true := by
  have hk : keyB f = true ∧ inB d 0 6 = true := by unfold coB at h; rwa [Bool.and_eq_true] at h
  obtain ⟨f0, f1⟩ := keyB_iff.1 hk.1
  have tb := tonZ_bd f m
  rw [nm_rk (coL_all f m d sv) (by have := coL_len f m d sv; omega), coL_cl m sv h, Option.isSome_map]
  obtain ⟨g, rfl⟩ : ∃ g : Nat, f = (g : Int) - 7 := ⟨(f + 7).toNat, by omega⟩
  obtain ⟨s, hs⟩ : ∃ s : Nat, (tonZ ((g : Int) - 7) m + d) % 7 = s := ⟨((tonZ ((g : Int) - 7) m + d) % 7).toNat, by omega⟩
  have := List.all_eq_true.1 (List.all_eq_true.1 nmd_all g (List.mem_range.2 (by omega))) s (List.mem_range.2 (by omega))
  rw [Bool.and_eq_true] at this
  rw [hs]
  cases sv
  · exact this.2
  · exact this.1
/-- A degree that is found has a chord of the same classes. -/
theorem dc_of {f : Int} {m : Bool} {l : List Pt} {d : Int} (h : dcZ f m l = d) (h0 : 0 ≤ d) : keyB f = true ∧ d ≤ 6 ∧ l.all pvP = true ∧ l.length ≤ 12 ∧ ∃ sv, l.all (hasB (coL f m d sv)) = true ∧ (coL f m d sv).all (hasB l) = true := by
  unfold dcZ at h
  split at h
  · rename_i hc
    simp only [Bool.and_eq_true, decide_eq_true_eq] at hc
    cases ho : degL.findSome? (dgF f m l) with
    | none => rw [ho] at h; simp at h; omega
    | some e =>
      rw [ho] at h
      obtain rfl : e = d := h
      obtain ⟨x, hx, hg⟩ := List.exists_of_findSome?_eq_some ho
      unfold dgF at hg
      split at hg
      · rename_i hfit
        obtain rfl := Option.some.inj hg
        have hx6 : x ≤ 6 := by unfold degL at hx; simp at hx; omega
        rw [Bool.or_eq_true] at hfit
        have key : ∀ sv, fitB l (coL f m x sv) = true → l.all pvP = true ∧ l.all (hasB (coL f m x sv)) = true ∧ (coL f m x sv).all (hasB l) = true := fun sv hf => by
          unfold fitB at hf
          rw [all_and, Bool.and_eq_true, Bool.and_eq_true] at hf
          exact ⟨hf.1.1, hf.1.2, hf.2⟩
        rcases hfit with hf | hf
        · have := key _ hf
          exact ⟨hc.1, hx6, this.1, hc.2.2, false, this.2.1, this.2.2⟩
        · have := key _ hf
          exact ⟨hc.1, hx6, this.1, hc.2.2, true, this.2.1, this.2.2⟩
      · cases hg
  · omega

/- Progressions. -/
theorem pf_none : ∀ (l : List Int) (k : Nat), (∀ (i : Nat) (a b : Int), l[i]? = some a → l[i + 1]? = some b → badB a b = false) → pfF k l = -1
  | [], _, _ => rfl
  | [_], _, _ => rfl
  | a :: b :: l, k, h => by
    rw [pfF, h 0 a b rfl rfl]
    exact pf_none (b :: l) (k + 1) fun i x y hx hy => h (i + 1) x y hx hy
theorem pf_find : ∀ (l : List Int) (k : Nat) (z : Int), pfF k l = z → 0 ≤ z → ∃ (i : Nat) (a b : Int), z = (k : Int) + i ∧ l[i]? = some a ∧ l[i + 1]? = some b ∧ badB a b = true ∧ ∀ (j : Nat) (x y : Int), j < i → l[j]? = some x → l[j + 1]? = some y → badB x y = false
  | [], _, z, h, h0 => by rw [pfF] at h; omega
  | [_], _, z, h, h0 => by rw [pfF] at h; omega
  | a :: b :: l, k, z, h, h0 => by
    rw [pfF] at h
    cases hb : badB a b
    · rw [hb] at h
      obtain ⟨i, x, y, e, hx, hy, hbad, hno⟩ := pf_find (b :: l) (k + 1) z h h0
      refine ⟨i + 1, x, y, by push_cast at e ⊢; omega, hx, hy, hbad, fun j u v hj hu hv => ?_⟩
      cases j with
      | zero =>
        simp at hu hv
        subst hu hv
        exact hb
      | succ j => exact hno j u v (by omega) hu hv
    · rw [hb, if_pos rfl] at h
      exact ⟨0, a, b, by omega, rfl, rfl, hb, fun j _ _ hj => by omega⟩
/-- Before a fault there is none; the two alone have one. -/
theorem pf_parts {l : List Int} {z : Int} (h : pfZ l = z) (h0 : 0 ≤ z) : ∃ n : Nat, z = n ∧ 1 ≤ n ∧ n < l.length ∧ pfZ (l.take n) = -1 ∧ pfZ ((l.drop (n - 1)).take 2) = 1 := by
  unfold pfZ at h
  split at h
  · rename_i hall
    obtain ⟨i, a, b, e, ha, hb, hbad, hno⟩ := pf_find l 1 z h h0
    have hlt := (List.getElem?_eq_some_iff.1 hb).1
    refine ⟨i + 1, by push_cast at e ⊢; omega, by omega, by omega, ?_, ?_⟩
    · unfold pfZ
      split
      · refine pf_none _ 1 fun j x y hx hy => ?_
        have hj := (List.getElem?_eq_some_iff.1 hy).1
        rw [List.length_take] at hj
        rw [List.getElem?_take_of_lt (by omega)] at hx hy
        exact hno j x y (by omega) hx hy
      · rfl
    · have e2 : (l.drop (i + 1 - 1)).take 2 = [a, b] := by
        obtain ⟨h1, g1⟩ := List.getElem?_eq_some_iff.1 ha
        obtain ⟨h2, g2⟩ := List.getElem?_eq_some_iff.1 hb
        rw [Nat.add_sub_cancel, List.drop_eq_getElem_cons h1, List.drop_eq_getElem_cons h2, g1, g2]
        rfl
      rw [e2]
      have m1 := List.all_eq_true.1 hall a (List.mem_of_getElem? ha)
      have m2 := List.all_eq_true.1 hall b (List.mem_of_getElem? hb)
      unfold pfZ
      rw [show ([a, b].all fun d => inB d 0 6) = true by simp [m1, m2], if_pos rfl, pfF, hbad]
      rfl
  · omega
theorem pfZ_bd (l : List Int) : pfZ l = -1 ∨ 0 ≤ pfZ l := by
  have key : ∀ (l : List Int) (k : Nat), pfF k l = -1 ∨ 0 ≤ pfF k l := by
    intro l
    induction l with
    | nil => intro k; exact Or.inl rfl
    | cons a l ih =>
      intro k
      cases l with
      | nil => exact Or.inl rfl
      | cons b l =>
        rw [pfF]
        split
        · exact Or.inr (by omega)
        · exact ih (k + 1)
  unfold pfZ
  split
  · exact key l 1
  · exact Or.inl rfl

/- Plain facts for chapter 12: faults of chords of four voices, of ways, of parts. -/

theorem key_bd12 {s a o : Int} (hv : pvB s a o = true) : -2 ≤ keyZ s a o ∧ keyZ s a o ≤ 109 := by
  obtain ⟨⟨h1, h2⟩, ⟨h3, h4⟩, ⟨h5, h6⟩⟩ := pvB_iff.1 hv
  have := halZ_bd s
  rw [keyZ, if_pos hv, natZ_os h1 h2]
  omega
/-- The key of voice i. -/
def k4 (l : List Pt) (i : Nat) : Int := kyP (l.getD i ⟨0, 0, 0⟩)
theorem k4_at {l : List Pt} {i : Nat} {x : Pt} (h : l[i]? = some x) : k4 l i = kyP x := by unfold k4; rw [getD_of h]
/-- Four valid voices. -/
def vo4 (l : List Pt) : Bool := l.all pvP && decide (l.length = 4)
theorem vo4_iff {l : List Pt} : vo4 l = true ↔ (∀ x ∈ l, pvP x = true) ∧ l.length = 4 := by simp [vo4]
theorem k4_bd {l : List Pt} (h : vo4 l = true) {i : Nat} (hi : i < 4) : -2 ≤ k4 l i ∧ k4 l i ≤ 109 := by
  obtain ⟨h1, h2⟩ := vo4_iff.1 h
  obtain ⟨x, hx⟩ : ∃ x, l[i]? = some x := ⟨_, List.getElem?_eq_getElem (by omega)⟩
  rw [k4_at hx]
  exact key_bd12 (h1 x (List.mem_of_getElem? hx))
def loZ (i : Nat) : Int := if i = 0 then 28 else if i = 1 then 36 else if i = 2 then 43 else 48
def hiZ (i : Nat) : Int := if i = 0 then 48 else if i = 1 then 55 else if i = 2 then 62 else 67
/-- Voices that cross; that are too far apart; that leave their range. -/
def crP (l : List Pt) : Prop := ∃ i, i < 3 ∧ k4 l (i + 1) < k4 l i
def faP (l : List Pt) : Prop := ∃ i, 1 ≤ i ∧ i < 3 ∧ 12 < k4 l (i + 1) - k4 l i
def raP (l : List Pt) : Prop := ∃ i, i < 4 ∧ (k4 l i < loZ i ∨ hiZ i < k4 l i)
open Classical in
/-- What StackFault answers. -/
noncomputable def stZ (l : List Pt) : Int := if vo4 l = true then (if crP l then 2 else if faP l then 3 else if raP l then 4 else 0) else 1
theorem st_voices {l : List Pt} (h : vo4 l = false) : stZ l = 1 := by unfold stZ; rw [if_neg (by rw [h]; exact Bool.false_ne_true)]
theorem st_cross {l : List Pt} (h : vo4 l = true) (h1 : crP l) : stZ l = 2 := by unfold stZ; rw [if_pos h, if_pos h1]
theorem st_far {l : List Pt} (h : vo4 l = true) (h1 : ¬ crP l) (h2 : faP l) : stZ l = 3 := by unfold stZ; rw [if_pos h, if_neg h1, if_pos h2]
theorem st_range {l : List Pt} (h : vo4 l = true) (h1 : ¬ crP l) (h2 : ¬ faP l) (h3 : raP l) : stZ l = 4 := by unfold stZ; rw [if_pos h, if_neg h1, if_neg h2, if_pos h3]
theorem st_none {l : List Pt} (h : vo4 l = true) (h1 : ¬ crP l) (h2 : ¬ faP l) (h3 : ¬ raP l) : stZ l = 0 := by unfold stZ; rw [if_pos h, if_neg h1, if_neg h2, if_neg h3]
theorem st_bd (l : List Pt) : 0 ≤ stZ l ∧ stZ l ≤ 4 := by unfold stZ; (repeat' split) <;> omega
theorem st_zero {l : List Pt} (h : stZ l = 0) : vo4 l = true ∧ ¬ crP l ∧ ¬ faP l ∧ ¬ raP l := by
  unfold stZ at h
  split at h
  · rename_i h0
    split at h
    · omega
    · rename_i h1
      split at h
      · omega
      · rename_i h2
        split at h
        · omega
        · rename_i h3
          exact ⟨h0, h1, h2, h3⟩
  · omega
/-- Without a fault: four voices that don't descend, from 28 to 67; with a voice less there is a fault. -/
theorem st_good {l : List Pt} (h : stZ l = 0) : l.length = 4 ∧ (∀ i, i < 4 → 28 ≤ k4 l i ∧ k4 l i ≤ 67) ∧ (∀ i, i < 3 → k4 l i ≤ k4 l (i + 1)) ∧ stZ (l.drop 1) = 1 := by
  obtain ⟨h0, h1, _, h3⟩ := st_zero h
  obtain ⟨h4, h5⟩ := vo4_iff.1 h0
  refine ⟨h5, fun i hi => ?_, fun i hi => ?_, st_voices ?_⟩
  · have : ¬ (k4 l i < loZ i ∨ hiZ i < k4 l i) := fun hc => h3 ⟨i, hi, hc⟩
    have e1 : 28 ≤ loZ i := by unfold loZ; (repeat' split) <;> omega
    have e2 : hiZ i ≤ 67 := by unfold hiZ; (repeat' split) <;> omega
    omega
  · have : ¬ k4 l (i + 1) < k4 l i := fun hc => h1 ⟨i, hi, hc⟩
    omega
  · rw [← Bool.not_eq_true, vo4_iff]
    rintro ⟨_, hc⟩
    rw [List.length_drop] at hc
    omega

/- Ways. -/
/-- Voices i and j move in parallels, x half tones apart. -/
def paP (a b : List Pt) (x : Int) (i j : Nat) : Prop := 0 < (k4 b i - k4 a i) * (k4 b j - k4 a j) ∧ (k4 a j - k4 a i + 120) % 12 = x ∧ (k4 b j - k4 b i + 120) % 12 = x
def prP (a b : List Pt) (x : Int) : Prop := ∃ i j, i < j ∧ j < 4 ∧ paP a b x i j
def leP (a b : List Pt) : Prop := ∃ i, i < 4 ∧ (12 < k4 b i - k4 a i ∨ 12 < k4 a i - k4 b i)
open Classical in
/-- What MoveFault answers. -/
noncomputable def mvZ (a b : List Pt) : Int := if vo4 a = true ∧ vo4 b = true then (if prP a b 7 then 5 else if prP a b 0 then 6 else if leP a b then 7 else 0) else 1
theorem mv_voices {a b : List Pt} (h : ¬ (vo4 a = true ∧ vo4 b = true)) : mvZ a b = 1 := by unfold mvZ; rw [if_neg h]
theorem mv_fifths {a b : List Pt} (h : vo4 a = true ∧ vo4 b = true) (h1 : prP a b 7) : mvZ a b = 5 := by unfold mvZ; rw [if_pos h, if_pos h1]
theorem mv_octaves {a b : List Pt} (h : vo4 a = true ∧ vo4 b = true) (h1 : ¬ prP a b 7) (h2 : prP a b 0) : mvZ a b = 6 := by unfold mvZ; rw [if_pos h, if_neg h1, if_pos h2]
theorem mv_leap {a b : List Pt} (h : vo4 a = true ∧ vo4 b = true) (h1 : ¬ prP a b 7) (h2 : ¬ prP a b 0) (h3 : leP a b) : mvZ a b = 7 := by unfold mvZ; rw [if_pos h, if_neg h1, if_neg h2, if_pos h3]
theorem mv_none {a b : List Pt} (h : vo4 a = true ∧ vo4 b = true) (h1 : ¬ prP a b 7) (h2 : ¬ prP a b 0) (h3 : ¬ leP a b) : mvZ a b = 0 := by unfold mvZ; rw [if_pos h, if_neg h1, if_neg h2, if_neg h3]
theorem mv_cases (a b : List Pt) : mvZ a b = 1 ∧ ¬ (vo4 a = true ∧ vo4 b = true) ∨ (vo4 a = true ∧ vo4 b = true) ∧ (mvZ a b = 0 ∨ 5 ≤ mvZ a b ∧ mvZ a b ≤ 7) := by
  unfold mvZ
  split
  · rename_i h
    right
    refine ⟨h, ?_⟩
    (repeat' split) <;> omega
  · rename_i h
    exact Or.inl ⟨rfl, h⟩
theorem pa_back {a b : List Pt} {x : Int} {i j : Nat} (h : paP a b x i j) : paP b a x i j := by
  obtain ⟨h1, h2, h3⟩ := h
  refine ⟨?_, h3, h2⟩
  rw [show (k4 a i - k4 b i) * (k4 a j - k4 b j) = (k4 b i - k4 a i) * (k4 b j - k4 a j) by
    rw [show k4 a i - k4 b i = -(k4 b i - k4 a i) by omega, show k4 a j - k4 b j = -(k4 b j - k4 a j) by omega, Int.neg_mul_neg]]
  exact h1
theorem pr_back {a b : List Pt} {x : Int} : prP a b x ↔ prP b a x :=
  ⟨fun ⟨i, j, h1, h2, h⟩ => ⟨i, j, h1, h2, pa_back h⟩, fun ⟨i, j, h1, h2, h⟩ => ⟨i, j, h1, h2, pa_back h⟩⟩
theorem le_back {a b : List Pt} : leP a b ↔ leP b a :=
  ⟨fun ⟨i, h1, h⟩ => ⟨i, h1, by omega⟩, fun ⟨i, h1, h⟩ => ⟨i, h1, by omega⟩⟩
/-- The way back has the fault of the way. -/
theorem mv_back (a b : List Pt) : mvZ b a = mvZ a b := by
  by_cases h : vo4 a = true ∧ vo4 b = true
  · have h' := And.intro h.2 h.1
    by_cases h1 : prP a b 7
    · rw [mv_fifths h h1, mv_fifths h' (pr_back.1 h1)]
    · have h1' : ¬ prP b a 7 := fun hc => h1 (pr_back.1 hc)
      by_cases h2 : prP a b 0
      · rw [mv_octaves h h1 h2, mv_octaves h' h1' (pr_back.1 h2)]
      · have h2' : ¬ prP b a 0 := fun hc => h2 (pr_back.1 hc)
        by_cases h3 : leP a b
        · rw [mv_leap h h1 h2 h3, mv_leap h' h1' h2' (le_back.1 h3)]
        · rw [mv_none h h1 h2 h3, mv_none h' h1' h2' fun hc => h3 (le_back.1 hc)]
  · rw [mv_voices h, mv_voices fun hc => h ⟨hc.2, hc.1⟩]
/-- Voices that do not move have no fault. -/
theorem mv_self {a : List Pt} (h : vo4 a = true) : mvZ a a = 0 := by
  refine mv_none ⟨h, h⟩ ?_ ?_ ?_
  · rintro ⟨i, j, _, _, h1, _⟩
    rw [Int.sub_self, Int.zero_mul] at h1
    omega
  · rintro ⟨i, j, _, _, h1, _⟩
    rw [Int.sub_self, Int.zero_mul] at h1
    omega
  · rintro ⟨i, _, h1⟩
    omega
theorem mul_bd {x y : Int} (x0 : -200 ≤ x) (x1 : x ≤ 200) (y0 : -200 ≤ y) (y1 : y ≤ 200) : -40000 ≤ x * y ∧ x * y ≤ 40000 := by
  have h1 := Int.mul_nonneg (show 0 ≤ x + 200 by omega) (show 0 ≤ y + 200 by omega)
  have h2 := Int.mul_nonneg (show 0 ≤ 200 - x by omega) (show 0 ≤ 200 - y by omega)
  have h3 := Int.mul_nonneg (show 0 ≤ x + 200 by omega) (show 0 ≤ 200 - y by omega)
  have h4 := Int.mul_nonneg (show 0 ≤ 200 - x by omega) (show 0 ≤ y + 200 by omega)
  rw [Int.add_mul, Int.mul_add, Int.mul_add] at h1
  rw [Int.sub_mul, Int.mul_sub, Int.mul_sub] at h2
  rw [Int.add_mul, Int.mul_sub, Int.mul_sub] at h3
  rw [Int.sub_mul, Int.mul_add, Int.mul_add] at h4
  constructor <;> omega

/- Parts. -/
/-- The faults of chord k, with its number. -/
noncomputable def faL (ll : List (List Pt)) (k : Nat) : List (Int × Int) :=
  (if stZ (ll.getD k []) = 0 then [] else [((k : Int), stZ (ll.getD k []))]) ++ (if k = 0 then [] else if mvZ (ll.getD (k - 1) []) (ll.getD k []) = 0 then [] else [((k : Int), mvZ (ll.getD (k - 1) []) (ll.getD k []))])
noncomputable def paF (ll : List (List Pt)) (n : Nat) : List (Int × Int) := (List.range n).flatMap (faL ll)
theorem paF_up (ll : List (List Pt)) (n : Nat) : paF ll (n + 1) = paF ll n ++ faL ll n := by
  unfold paF
  rw [List.range_succ, List.flatMap_append]
  simp
/-- What PartsFaults answers. -/
noncomputable def paZ (ll : List (List Pt)) : List (Int × Int) := if ll.length ≤ 8 then paF ll ll.length else []
theorem faL_of {ll : List (List Pt)} {k : Nat} {p : Int × Int} (h : p ∈ faL ll k) : p.1 = k ∧ 1 ≤ p.2 ∧ p.2 ≤ 7 := by
  unfold faL at h
  rcases List.mem_append.1 h with h | h
  · split at h
    · cases h
    · obtain rfl := List.mem_singleton.1 h
      have := st_bd (ll.getD k [])
      rename_i h0
      exact ⟨rfl, by dsimp only; omega, by dsimp only; omega⟩
  · split at h
    · cases h
    · split at h
      · cases h
      · obtain rfl := List.mem_singleton.1 h
        rename_i h1 h0
        refine ⟨rfl, ?_⟩
        rcases mv_cases (ll.getD (k - 1) []) (ll.getD k []) with ⟨e, _⟩ | ⟨_, e | e⟩ <;> (dsimp only; omega)
theorem paF_mem {ll : List (List Pt)} {n : Nat} {p : Int × Int} (h : p ∈ paF ll n) : 0 ≤ p.1 ∧ p.1 < n ∧ 1 ≤ p.2 ∧ p.2 ≤ 7 := by
  unfold paF at h
  obtain ⟨k, hk, hp⟩ := List.mem_flatMap.1 h
  have := List.mem_range.1 hk
  have := faL_of hp
  omega
theorem faL_len (ll : List (List Pt)) (k : Nat) : (faL ll k).length ≤ 2 := by
  unfold faL
  rw [List.length_append]
  have h1 : (if stZ (ll.getD k []) = 0 then ([] : List (Int × Int)) else [((k : Int), stZ (ll.getD k []))]).length ≤ 1 := by split <;> simp
  have h2 : (if k = 0 then ([] : List (Int × Int)) else if mvZ (ll.getD (k - 1) []) (ll.getD k []) = 0 then [] else [((k : Int), mvZ (ll.getD (k - 1) []) (ll.getD k []))]).length ≤ 1 := by (repeat' split) <;> simp
  omega
theorem paF_len (ll : List (List Pt)) : ∀ n, (paF ll n).length ≤ 2 * n
  | 0 => by simp [paF]
  | n + 1 => by
    rw [paF_up, List.length_append]
    have := faL_len ll n
    have := paF_len ll n
    omega
/-- The numbers do not descend. -/
theorem paF_up2 (ll : List (List Pt)) : ∀ n, (paF ll n).Pairwise fun p q => p.1 ≤ q.1
  | 0 => by unfold paF; exact List.Pairwise.nil
  | n + 1 => by
    rw [paF_up, List.pairwise_append]
    refine ⟨paF_up2 ll n, ?_, fun p hp q hq => ?_⟩
    · refine List.pairwise_iff_getElem.2 fun i j h1 h2 _ => ?_
      have e1 := (faL_of (List.getElem_mem h1)).1
      have e2 := (faL_of (List.getElem_mem h2)).1
      omega
    · have := paF_mem hp
      have := (faL_of hq).1
      omega
theorem pa_up {ll : List (List Pt)} {n i : Nat} {p q : Int × Int} (hp : (paF ll n)[i]? = some p) (hq : (paF ll n)[i + 1]? = some q) : p.1 ≤ q.1 := by
  obtain ⟨h1, e1⟩ := List.getElem?_eq_some_iff.1 hp
  obtain ⟨h2, e2⟩ := List.getElem?_eq_some_iff.1 hq
  have := List.pairwise_iff_getElem.1 (paF_up2 ll n) i (i + 1) h1 h2 (by omega)
  rwa [e1, e2] at this
end Go.Proofs.YtcgcnkddgihkpaaDoor
