/- Plain facts for chapter 11: chords of keys, degrees of chords, progressions, cadences. -/
import Derived.Test.YtjfmbklgkmkgjaaPure10
import Derived.Test.YtjfmbklgkmkgjaaPure3
namespace Go.Proofs.Ytjfmbklgkmkgjaa
set_option linter.unusedSimpArgs false
set_option linter.unusedVariables false
set_option maxRecDepth 8000

/-- The pitch of a key at a place. -/
def plP (f p : Int) : Pt := ⟨p % 7, altZ f (p % 7), p / 7⟩
def stL (sv : Bool) : List Int := if sv then [0, 2, 4, 6] else [0, 2, 4]
/-- The chord on a degree. -/
def coB (f d : Int) : Bool := keyB f && inB d 0 6
def coL (f : Int) (m : Bool) (d : Int) (sv : Bool) : List Pt := if coB f d then (stL sv).map fun k => plP f (28 + tonZ f m + d + k) else []
theorem coL_len (f : Int) (m : Bool) (d : Int) (sv : Bool) : (coL f m d sv).length ≤ 4 := by
  unfold coL
  split
  · rw [List.length_map]; unfold stL; split <;> simp
  · simp
theorem plP_ok {f p : Int} (h0 : 0 ≤ p) (h1 : p ≤ 62) : pvP (plP f p) = true := by
  have := altZ_bd f (p % 7)
  rw [pvP_iff]
  unfold plP
  dsimp only
  omega
theorem coL_all (f : Int) (m : Bool) (d : Int) (sv : Bool) : (coL f m d sv).all pvP = true := by
  unfold coL
  split
  · rename_i h
    have hd := inB_iff.1 ((Bool.and_eq_true _ _ ▸ (h : (keyB f && inB d 0 6) = true)).2)
    have ht := tonZ_bd f m
    rw [List.all_map, List.all_eq_true]
    intro k hk
    refine plP_ok ?_ ?_ <;> (unfold stL at hk; split at hk <;> simp at hk <;> omega)
  · rfl
/-- The pitches are exactly the chord, by classes. -/
def fitB (l t : List Pt) : Bool := l.all (fun x => pvP x && hasB t x) && t.all (hasB l)
/-- The degree on which pitches are a chord. -/
def dgF (f : Int) (m : Bool) (l : List Pt) (d : Int) : Option Int := if fitB l (coL f m d false) || fitB l (coL f m d true) then some d else none
def degL : List Int := [0, 1, 2, 3, 4, 5, 6]
def dcZ (f : Int) (m : Bool) (l : List Pt) : Int := if keyB f && (decide (1 ≤ l.length) && decide (l.length ≤ 12)) then (degL.findSome? (dgF f m l)).getD (-1) else -1
/-- A degree that must not follow. -/
def badB (a b : Int) : Bool := (a == 4 || a == 6) && (b == 1 || b == 3)
def pfF : Nat → List Int → Int
  | _, [] => -1
  | _, [_] => -1
  | k, a :: b :: l => if badB a b then k else pfF (k + 1) (b :: l)
def pfZ (l : List Int) : Int := if l.all (fun d => inB d 0 6) then pfF 1 l else -1
/-- The cadence of the last two. -/
def cdB (a b : Int) : Int := if a = 4 ∧ b = 0 then 1 else if a = 3 ∧ b = 0 then 2 else if a = 4 ∧ b = 5 then 3 else if b = 4 ∧ a ≠ 4 then 4 else 0
def cdZ (l : List Int) : Int := if l.length < 2 then 0 else cdB (l.getD (l.length - 2) 0) (l.getD (l.length - 1) 0)

/-- The chord by classes depends on its step alone. -/
def csL (f s : Int) (sv : Bool) : List (Int × Int) := (stL sv).map fun k => ((s + k) % 7, altZ f ((s + k) % 7))
theorem coL_cl {f d : Int} (m : Bool) (sv : Bool) (h : coB f d = true) : (coL f m d sv).map cl2 = csL f ((tonZ f m + d) % 7) sv := by
  unfold coL csL
  rw [if_pos h, List.map_map]
  refine List.map_congr_left fun k _ => ?_
  show (((28 + tonZ f m + d + k) % 7, altZ f ((28 + tonZ f m + d + k) % 7)) : Int × Int) = _
  rw [show (28 + tonZ f m + d + k) % 7 = ((tonZ f m + d) % 7 + k) % 7 by omega]
def nmdB (f s : Int) (sv : Bool) : Bool := (rkC (csL f s sv)).isSome
theorem nmd_all : ((List.range 15).all fun f => (List.range 7).all fun s => nmdB ((f : Int) - 7) s true && nmdB ((f : Int) - 7) s false) = true := by decide +kernel

/- Plain facts for chapter 11: the promises. -/

def fiC (cs ds : List (Int × Int)) : Bool := cs.all (fun y => ds.any fun z => z.1 == y.1 && z.2 == y.2) && ds.all fun y => cs.any fun z => z.1 == y.1 && z.2 == y.2
theorem hasB_cl (t : List Pt) (y : Pt) : hasB t y = (t.map cl2).any fun z => z.1 == (cl2 y).1 && z.2 == (cl2 y).2 := by
  rw [← any_cl t fun z => z.1 == (cl2 y).1 && z.2 == (cl2 y).2]; rfl
theorem all_has (t u : List Pt) : u.all (hasB t) = (u.map cl2).all fun y => (t.map cl2).any fun z => z.1 == y.1 && z.2 == y.2 := by
  rw [← all_cl u fun y => (t.map cl2).any fun z => z.1 == y.1 && z.2 == y.2]
  congr 1
  funext y
  exact hasB_cl t y
theorem all_and {α : Type} (p q : α → Bool) (l : List α) : (l.all fun x => p x && q x) = (l.all p && l.all q) := by
  induction l with
  | nil => rfl
  | cons x l ih => simp only [List.all_cons, ih]; cases p x <;> cases q x <;> cases l.all p <;> simp
theorem fitB_cl (l t : List Pt) : fitB l t = (l.all pvP && fiC (l.map cl2) (t.map cl2)) := by
  unfold fitB fiC
  rw [all_and, all_has, all_has, Bool.and_assoc]
theorem fiC_all : ((List.range 15).all fun f => (List.range 7).all fun s => (List.range 7).all fun e => [true, false].all fun a => [true, false].all fun b => fiC (csL ((f : Int) - 7) s a) (csL ((f : Int) - 7) e b) == (s == e && a == b)) = true := by decide +kernel
theorem fiC_at {f s e : Int} (a b : Bool) (f0 : -7 ≤ f) (f1 : f ≤ 7) (s0 : 0 ≤ s) (s1 : s < 7) (e0 : 0 ≤ e) (e1 : e < 7) : fiC (csL f s a) (csL f e b) = (decide (s = e) && a == b) := by
  obtain ⟨g, rfl⟩ : ∃ g : Nat, f = (g : Int) - 7 := ⟨(f + 7).toNat, by omega⟩
  obtain ⟨p, rfl⟩ : ∃ g : Nat, s = g := ⟨s.toNat, by omega⟩
  obtain ⟨q, rfl⟩ : ∃ g : Nat, e = g := ⟨e.toNat, by omega⟩
  have h := List.all_eq_true.1 (List.all_eq_true.1 (List.all_eq_true.1 (List.all_eq_true.1 (List.all_eq_true.1 fiC_all g (List.mem_range.2 (by omega))) p (List.mem_range.2 (by omega))) q (List.mem_range.2 (by omega))) a (by cases a <;> simp)) b (by cases b <;> simp)
  rw [beq_iff_eq] at h
  rw [h]
  congr 1
  rw [Bool.eq_iff_iff]
  simp
  omega
/-- A chord of a key is found on its degree. -/
theorem dc_chord {f d : Int} (m : Bool) (sv : Bool) (h : coB f d = true) : dcZ f m (coL f m d sv) = d := by
  have hk : keyB f = true ∧ inB d 0 6 = true := by unfold coB at h; rwa [Bool.and_eq_true] at h
  obtain ⟨f0, f1⟩ := keyB_iff.1 hk.1
  obtain ⟨d0, d6⟩ := inB_iff.1 hk.2
  have hl : 1 ≤ (coL f m d sv).length ∧ (coL f m d sv).length ≤ 12 := by
    have := coL_len f m d sv
    refine ⟨?_, by omega⟩
    unfold coL
    rw [if_pos h, List.length_map]
    unfold stL
    split <;> simp
  have tb := tonZ_bd f m
  have hE : ∀ e : Int, 0 ≤ e → e ≤ 6 → dgF f m (coL f m d sv) e = if e = d then some e else none := fun e e0 e6 => by
    have hce : coB f e = true := by unfold coB; rw [hk.1, inB_iff.2 ⟨e0, e6⟩]; rfl
    unfold dgF
    rw [fitB_cl, fitB_cl, coL_all, coL_cl m sv h, coL_cl m false hce, coL_cl m true hce, Bool.true_and, Bool.true_and,
      fiC_at sv false f0 f1 (by omega) (by omega) (by omega) (by omega), fiC_at sv true f0 f1 (by omega) (by omega) (by omega) (by omega)]
    by_cases hed : e = d
    · subst hed
      rw [if_pos rfl, decide_eq_true rfl]
      cases sv <;> rfl
    · rw [if_neg hed, decide_eq_false (by omega)]
      rfl
  unfold dcZ
  rw [hk.1, decide_eq_true hl.1, decide_eq_true hl.2]
  show ((degL.findSome? (dgF f m (coL f m d sv))).getD (-1)) = d
  unfold degL
  simp only [List.findSome?_cons, List.findSome?_nil, hE 0 (by omega) (by omega), hE 1 (by omega) (by omega), hE 2 (by omega) (by omega), hE 3 (by omega) (by omega), hE 4 (by omega) (by omega), hE 5 (by omega) (by omega), hE 6 (by omega) (by omega)]
  obtain rfl | rfl | rfl | rfl | rfl | rfl | rfl : d = 0 ∨ d = 1 ∨ d = 2 ∨ d = 3 ∨ d = 4 ∨ d = 5 ∨ d = 6 := by omega
  all_goals rfl
/-- A chord of a key has a name. -/
theorem co_named {f d : Int} (m : Bool) (sv : Bool) (h : coB f d = true) : (nmZ (coL f m d sv)).isSome = true := by
  have hk : keyB f = true ∧ inB d 0 6 = true := by unfold coB at h; rwa [Bool.and_eq_true] at h
  obtain ⟨f0, f1⟩ := keyB_iff.1 hk.1
  have tb := tonZ_bd f m
  rw [nm_rk (coL_all f m d sv) (by have := coL_len f m d sv; omega), coL_cl m sv h, Option.isSome_map]
  obtain ⟨g, rfl⟩ : ∃ g : Nat, f = (g : Int) - 7 := ⟨(f + 7).toNat, by omega⟩
  obtain ⟨s, hs⟩ : ∃ s : Nat, (tonZ ((g : Int) - 7) m + d) % 7 = s := ⟨((tonZ ((g : Int) - 7) m + d) % 7).toNat, by omega⟩
  have := List.all_eq_true.1 (List.all_eq_true.1 nmd_all g (List.mem_range.2 (by omega))) s (List.mem_range.2 (by omega))
  rw [Bool.and_eq_true] at this
  rw [hs]
  cases sv
  · exact this.2
  · exact this.1
/-- A degree that is found has a chord of the same classes. -/
theorem dc_of {f : Int} {m : Bool} {l : List Pt} {d : Int} (h : dcZ f m l = d) (h0 : 0 ≤ d) : keyB f = true ∧ d ≤ 6 ∧ l.all pvP = true ∧ l.length ≤ 12 ∧ ∃ sv, l.all (hasB (coL f m d sv)) = true ∧ (coL f m d sv).all (hasB l) = true := by
  unfold dcZ at h
  split at h
  · rename_i hc
    simp only [Bool.and_eq_true, decide_eq_true_eq] at hc
    cases ho : degL.findSome? (dgF f m l) with
    | none => rw [ho] at h; simp at h; omega
    | some e =>
      rw [ho] at h
      obtain rfl : e = d := h
      obtain ⟨x, hx, hg⟩ := List.exists_of_findSome?_eq_some ho
      unfold dgF at hg
      split at hg
      · rename_i hfit
        obtain rfl := Option.some.inj hg
        have hx6 : x ≤ 6 := by unfold degL at hx; simp at hx; omega
        rw [Bool.or_eq_true] at hfit
        have key : ∀ sv, fitB l (coL f m x sv) = true → l.all pvP = true ∧ l.all (hasB (coL f m x sv)) = true ∧ (coL f m x sv).all (hasB l) = true := fun sv hf => by
          unfold fitB at hf
          rw [all_and, Bool.and_eq_true, Bool.and_eq_true] at hf
          exact ⟨hf.1.1, hf.1.2, hf.2⟩
        rcases hfit with hf | hf
        · have := key _ hf
          exact ⟨hc.1, hx6, this.1, hc.2.2, false, this.2.1, this.2.2⟩
        · have := key _ hf
          exact ⟨hc.1, hx6, this.1, hc.2.2, true, this.2.1, this.2.2⟩
      · cases hg
  · omega

/- Progressions. -/
theorem pf_none : ∀ (l : List Int) (k : Nat), (∀ (i : Nat) (a b : Int), l[i]? = some a → l[i + 1]? = some b → badB a b = false) → pfF k l = -1
  | [], _, _ => rfl
  | [_], _, _ => rfl
  | a :: b :: l, k, h => by
    rw [pfF, h 0 a b rfl rfl]
    exact pf_none (b :: l) (k + 1) fun i x y hx hy => h (i + 1) x y hx hy
theorem pf_find : ∀ (l : List Int) (k : Nat) (z : Int), pfF k l = z → 0 ≤ z → ∃ (i : Nat) (a b : Int), z = (k : Int) + i ∧ l[i]? = some a ∧ l[i + 1]? = some b ∧ badB a b = true ∧ ∀ (j : Nat) (x y : Int), j < i → l[j]? = some x → l[j + 1]? = some y → badB x y = false
  | [], _, z, h, h0 => by rw [pfF] at h; omega
  | [_], _, z, h, h0 => by rw [pfF] at h; omega
  | a :: b :: l, k, z, h, h0 => by
    rw [pfF] at h
    cases hb : badB a b
    · rw [hb] at h
      obtain ⟨i, x, y, e, hx, hy, hbad, hno⟩ := pf_find (b :: l) (k + 1) z h h0
      refine ⟨i + 1, x, y, by push_cast at e ⊢; omega, hx, hy, hbad, fun j u v hj hu hv => ?_⟩
      cases j with
      | zero =>
        simp at hu hv
        subst hu hv
        exact hb
      | succ j => exact hno j u v (by omega) hu hv
    · rw [hb, if_pos rfl] at h
      exact ⟨0, a, b, by omega, rfl, rfl, hb, fun j _ _ hj => by omega⟩
/-- Before a fault there is none; the two alone have one. -/
theorem pf_parts {l : List Int} {z : Int} (h : pfZ l = z) (h0 : 0 ≤ z) : ∃ n : Nat, z = n ∧ 1 ≤ n ∧ n < l.length ∧ pfZ (l.take n) = -1 ∧ pfZ ((l.drop (n - 1)).take 2) = 1 := by
  unfold pfZ at h
  split at h
  · rename_i hall
    obtain ⟨i, a, b, e, ha, hb, hbad, hno⟩ := pf_find l 1 z h h0
    have hlt := (List.getElem?_eq_some_iff.1 hb).1
    refine ⟨i + 1, by push_cast at e ⊢; omega, by omega, by omega, ?_, ?_⟩
    · unfold pfZ
      split
      · refine pf_none _ 1 fun j x y hx hy => ?_
        have hj := (List.getElem?_eq_some_iff.1 hy).1
        rw [List.length_take] at hj
        rw [List.getElem?_take_of_lt (by omega)] at hx hy
        exact hno j x y (by omega) hx hy
      · rfl
    · have e2 : (l.drop (i + 1 - 1)).take 2 = [a, b] := by
        obtain ⟨h1, g1⟩ := List.getElem?_eq_some_iff.1 ha
        obtain ⟨h2, g2⟩ := List.getElem?_eq_some_iff.1 hb
        rw [Nat.add_sub_cancel, List.drop_eq_getElem_cons h1, List.drop_eq_getElem_cons h2, g1, g2]
        rfl
      rw [e2]
      have m1 := List.all_eq_true.1 hall a (List.mem_of_getElem? ha)
      have m2 := List.all_eq_true.1 hall b (List.mem_of_getElem? hb)
      unfold pfZ
      rw [show ([a, b].all fun d => inB d 0 6) = true by simp [m1, m2], if_pos rfl, pfF, hbad]
      rfl
  · omega
theorem pfZ_bd (l : List Int) : pfZ l = -1 ∨ 0 ≤ pfZ l := by
  have key : ∀ (l : List Int) (k : Nat), pfF k l = -1 ∨ 0 ≤ pfF k l := by
    intro l
    induction l with
    | nil => intro k; exact Or.inl rfl
    | cons a l ih =>
      intro k
      cases l with
      | nil => exact Or.inl rfl
      | cons b l =>
        rw [pfF]
        split
        · exact Or.inr (by omega)
        · exact ih (k + 1)
  unfold pfZ
  split
  · exact key l 1
  · exact Or.inl rfl
end Go.Proofs.Ytjfmbklgkmkgjaa
