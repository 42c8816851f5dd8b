/- Sections that a call has made: the row of the sections, and a row for each list of endings. -/
import Derived.Test.YtpfefbpmchigeaaSecs
import Derived.Test.YtpfefbpmchigeaaWalksPS
namespace Go.Proofs.Ytpfefbpmchigeaa
set_option linter.unusedSimpArgs false
set_option linter.unusedVariables false
open Go.RowKit

section
variable {n : Nat} {B : World → Prop} {w w' : World}

theorem Own.skip : ∀ {U V : List Item}, Own n B w (U ++ V) → Own n B w V
  | [], _, h => h
  | _ :: _, _, h => Own.skip (h.2)
theorem Item.Holds.mono {m : Nat} {x : Item} (h : x.Holds m w) (hn : n ≤ m) : x.Holds n w := by
  cases x with
  | blk b vs => exact ⟨h.1, Nat.le_trans hn h.2.1, h.2.2⟩
  | row e size v k xs => exact ownsRow_mono h hn
/-- What a call has made joins what is owned. -/
theorem Own.join {W : World} {L : List Item} (h : Own n B W L) : ∀ {L' : List Item}, Own W.heap.size (Below W.heap.size W) w' L' → Own n B w' (L' ++ L)
  | [], h' => h.below h'.base
  | it :: L', ⟨⟨h1, h2⟩, h3⟩ => ⟨⟨h1.mono h.low, fun x hx => show apartI x it by
      rcases List.mem_append.1 hx with hx | hx
      · exact h2 x hx
      · refine apartI.of (x := x) (y := it) fun g hg e => ?_
        have a := (Item.Holds.lt h1 g e).1
        have b := (h.lt x hx g hg).2
        omega⟩, h.join h3⟩
/-- What is owned is let go of: it stays as it is, and what is made from here on is owned anew. -/
theorem Own.anew {L : List Item} (h : Own n B w L) : Own w.heap.size (fun W => B W ∧ Below w.heap.size w W) w [] :=
  ⟨⟨fun W hW => hW.2.size, fun W W' r hB hg hr => ⟨h.stab.grown W W' r hB.1 hg fun g e => ⟨Nat.le_trans h.low (hr g e).1, (hr g e).2⟩, (Stab.plain w).grown W W' r hB.2 hg hr⟩⟩, h.base, Below.refl _ _⟩
end

/-- Numbers as cells. -/
abbrev inC (l : List Int) : List Value := l.map (Value.int .i64)
/-- The rows of endings: a value, its cells. -/
def rwI (es : List (Value × List Value)) : List Item := es.map fun p => .row 3 1 p.1 p.2.length p.2
theorem rwI_append (a b : List (Value × List Value)) : rwI (a ++ b) = rwI a ++ rwI b := by simp [rwI]
/-- The rows hold the endings of sections. -/
def EsOf (l : List Sec) (es : List (Value × List Value)) : Prop := es.length = l.length ∧ ∀ (k : Nat) (s : Sec) (p : Value × List Value), l[k]? = some s → es[k]? = some p → p.2 = inC s.e
theorem EsOf.nil : EsOf [] [] := ⟨rfl, fun k s p h => by simp at h⟩
theorem EsOf.snoc {l : List Sec} {es : List (Value × List Value)} (h : EsOf l es) (s : Sec) (ev : Value) : EsOf (l ++ [s]) (es ++ [(ev, inC s.e)]) := by
  refine ⟨by simp [h.1], fun k z p hz hp => ?_⟩
  by_cases hk : k < l.length
  · rw [List.getElem?_append_left hk] at hz
    rw [List.getElem?_append_left (by rw [h.1]; exact hk)] at hp
    exact h.2 k z p hz hp
  · have hl := (List.getElem?_eq_some_iff.1 hz).1
    simp at hl
    obtain rfl : k = l.length := by omega
    rw [List.getElem?_append_right (Nat.le_refl _), Nat.sub_self] at hz
    rw [← h.1, List.getElem?_append_right (Nat.le_refl _), Nat.sub_self] at hp
    simp at hz hp
    subst hz hp
    rfl
theorem SecsAt.of_own {n : Nat} {B : World → Prop} {w : World} {v : Value} {l : List Sec} {es : List (Value × List Value)} {L : List Item} (h : Own n B w (.row 27 3 v l.length (scC l (es.map (·.1))) :: (rwI es ++ L))) (he : EsOf l es) : SecsAt w v l := by
  have h0 : w.ownsRow n 27 3 v l.length (scC l (es.map (·.1))) := h.1.1
  refine Or.inr ⟨es.map (·.1), by rw [List.length_map, he.1], SlAt.of_row h0, fun k s ev hs hev => ?_⟩
  rw [List.getElem?_map] at hev
  obtain ⟨p, hp, rfl⟩ := Option.map_eq_some_iff.1 hev
  have hx := h.2.holds (.row 3 1 p.1 p.2.length p.2) (List.mem_append_left _ (List.mem_map_of_mem (List.mem_of_getElem? hp)))
  have e := he.2 k s p hs hp
  have hlen : p.2.length = s.e.length := by rw [e, List.length_map]
  have := SlAt.of_row hx
  rw [hlen, e] at this
  exact Or.inr this
theorem scC_append : ∀ {u v : List Sec} {es fs : List Value}, es.length = u.length → scC (u ++ v) (es ++ fs) = scC u es ++ scC v fs
  | [], v, [], fs, _ => rfl
  | [], _, _ :: _, _, h => by simp at h
  | _ :: _, _, [], _, h => by simp at h
  | s :: u, v, e :: es, fs, h => by
    simp only [List.cons_append, scC, scC_append (u := u) (es := es) (by simpa using h)]
theorem scC_len : ∀ {u : List Sec} {es : List Value}, es.length = u.length → (scC u es).length = u.length * 3
  | [], [], _ => rfl
  | [], _ :: _, h => by simp at h
  | _ :: _, [], h => by simp at h
  | s :: u, e :: es, h => by
    simp only [scC, List.length_cons, scC_len (u := u) (es := es) (by simpa using h)]
    omega
/-- Section j is laid. -/
theorem scC_put {u r : List Sec} {z s : Sec} {vs ys : List Value} {y ev : Value} {j : Nat} (hu : u.length = j) (hv : vs.length = j) :
    (((scC (u ++ z :: r) (vs ++ y :: ys)).set (j * 3) (.int .i64 s.b)).set (j * 3 + 1) (.int .i64 s.t)).set (j * 3 + 2) ev = scC (u ++ s :: r) (vs ++ ev :: ys) := by
  have h1 := scC_len (u := u) (es := vs) (by omega)
  rw [scC_append (by omega), scC_append (by omega)]
  show (((scC u vs ++ (_ :: _ :: _ :: scC r ys)).set _ _).set _ _).set _ _ = _
  rw [set3 (by omega), List.append_assoc]
  rfl
theorem scC_cells : ∀ {u : List Sec} {es : List Value}, (∀ e ∈ es, e.oneCell' = true) → ∀ x ∈ scC u es, x.oneCell' = true
  | [], es, _, x, h => by cases es <;> cases h
  | _ :: _, [], _, x, h => by cases h
  | s :: u, e :: es, he, x, h => by
    simp only [scC, List.mem_cons] at h
    rcases h with rfl | rfl | rfl | h
    · rfl
    · rfl
    · exact he _ (by simp)
    · exact scC_cells (fun z hz => he z (by simp [hz])) x h

theorem scC_size : ∀ (l : List (Sec × Value)), (scC (l.map (·.1)) (l.map (·.2))).length = l.length * 3
  | [] => rfl
  | x :: l => by simp only [List.map_cons, scC, List.length_cons, scC_size l]; omega
theorem scC_of : ∀ {l : List (Sec × Value)} {j : Nat} {u : Value}, (scC (l.map (·.1)) (l.map (·.2)))[j]? = some u → ∃ x, l[j / 3]? = some x ∧ [Value.int .i64 x.1.b, .int .i64 x.1.t, x.2][j % 3]? = some u
  | [], _, _, h => by simp [scC] at h
  | x :: l, 0, u, h => ⟨x, rfl, h⟩
  | x :: l, 1, u, h => ⟨x, rfl, h⟩
  | x :: l, 2, u, h => ⟨x, rfl, h⟩
  | x :: l, j + 3, u, h => by
    obtain ⟨y, h1, h2⟩ := scC_of (l := l) (j := j) (u := u) (by simpa [scC] using h)
    exact ⟨y, by rw [show (j + 3) / 3 = j / 3 + 1 by omega]; exact h1, by rw [show (j + 3) % 3 = j % 3 by omega]; exact h2⟩

/-- What a call that hands back sections leaves. -/
def SecsOut (l : List Sec) (w : World) (e : Ending) (w' : World) : Prop :=
  ∃ (v : Value) (es : List (Value × List Value)), e = .returned v ∧ EsOf l es ∧ Own w.heap.size (Below w.heap.size w) w' (.row 27 3 v l.length (scC l (es.map (·.1))) :: rwI es)
/-- .. one section. -/
def SecOut (s : Sec) (w : World) (e : Ending) (w' : World) : Prop :=
  ∃ (A : Option Addr) (c : Nat), e = .returned (.agg #[.int .i64 s.b, .int .i64 s.t, .slice A s.e.length c]) ∧ w'.ownsRow w.heap.size 3 1 (.slice A s.e.length c) s.e.length (inC s.e) ∧ Below w.heap.size w w'

theorem own_call_secs {P : Program} {f : FuncId} {args : Array Value} {n : Nat} {B : World → Prop} {W : World} {L : List Item} {l : List Sec} {K : Ending → World → Prop}
    (hO : Own n B W L) (h : B W → Calls P f args W (SecsOut l W)) (k' : ∀ v es w1, EsOf l es → Own n B w1 (.row 27 3 v l.length (scC l (es.map (·.1))) :: (rwI es ++ L)) → K (.returned v) w1) : Calls P f args W K :=
  (h hO.base).mono fun e w1 ⟨v, es, he, hE, ho⟩ => by subst he; exact k' v es w1 hE (hO.join ho)
/-- .. that are read at once, and let go of. -/
theorem own_call_tmp {P : Program} {f : FuncId} {args : Array Value} {n : Nat} {B : World → Prop} {W : World} {L : List Item} {l : List Sec} {K : Ending → World → Prop}
    (hO : Own n B W L) (h : B W → Calls P f args W (SecsOut l W)) (k' : ∀ v w1, SecsAt w1 v l → Own n B w1 L → K (.returned v) w1) : Calls P f args W K :=
  (h hO.base).mono fun e w1 ⟨v, es, he, hE, ho⟩ => by
    subst he
    have h := hO.join ho
    exact k' v w1 (SecsAt.of_own h hE) h.2.skip
theorem own_call_sec {P : Program} {f : FuncId} {args : Array Value} {n : Nat} {B : World → Prop} {W : World} {L : List Item} {s : Sec} {K : Ending → World → Prop}
    (hO : Own n B W L) (h : B W → Calls P f args W (SecOut s W)) (k' : ∀ A c w1, Own n B w1 (.row 3 1 (.slice A s.e.length c) s.e.length (inC s.e) :: L) → K (.returned (.agg #[.int .i64 s.b, .int .i64 s.t, .slice A s.e.length c])) w1) : Calls P f args W K :=
  (h hO.base).mono fun e w1 ⟨A, c, he, hr, hb⟩ => by subst he; exact k' A c w1 (hO.addRow hb hr)
end Go.Proofs.Ytpfefbpmchigeaa
