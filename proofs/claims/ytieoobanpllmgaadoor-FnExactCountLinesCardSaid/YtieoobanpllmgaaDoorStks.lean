/- Chords in memory: slices of slices of pitches; those that came in; the rows that a call has made. -/
import Derived.Test.YtieoobanpllmgaaDoorWalksPt
namespace Go.Proofs.YtieoobanpllmgaaDoor
set_option linter.unusedSimpArgs false
set_option linter.unusedVariables false
set_option maxRecDepth 8000
open Go.RowKit

/-- The rows of chords: a value, its pitches. -/
def rwP (es : List (Value × List Pt)) : List Item := es.map fun p => .row 37 3 p.1 p.2.length (pcC p.2)
theorem rwP_append (a b : List (Value × List Pt)) : rwP (a ++ b) = rwP a ++ rwP b := by simp [rwP]
abbrev vsO (es : List (Value × List Pt)) : List Value := es.map (·.1)
abbrev lsO (es : List (Value × List Pt)) : List (List Pt) := es.map (·.2)

/-- Chords that a call has made. -/
def StkR (w : World) (va : Value) (ll : List (List Pt)) : Prop := ∃ evs : List Value, evs.length = ll.length ∧ SlAt w va ll.length 1 evs ∧ ∀ (k : Nat) (l : List Pt) (ev : Value), ll[k]? = some l → evs[k]? = some ev → SlAt w ev l.length 3 (pcC l)
/-- Chords that came in. -/
def StkIn (w : World) (va : Value) (ll : List (List Pt)) : Prop := (ll = [] ∧ ∃ a c, va = .slice a 0 c) ∨ ∃ evs : List Value, evs.length = ll.length ∧ SlAt w va ll.length 1 evs ∧ ∀ (k : Nat) (l : List Pt) (ev : Value), ll[k]? = some l → evs[k]? = some ev → PtsAt w ev l
theorem StkR.below {w w' : World} {va : Value} {ll : List (List Pt)} (h : StkR w va ll) (hb : Below w.heap.size w w') : StkR w' va ll := by
  obtain ⟨evs, h1, h2, h3⟩ := h
  exact ⟨evs, h1, h2.below hb, fun k l ev a b => (h3 k l ev a b).below hb⟩
theorem StkIn.below {w w' : World} {va : Value} {ll : List (List Pt)} (h : StkIn w va ll) (hb : Below w.heap.size w w') : StkIn w' va ll :=
  h.imp id fun ⟨evs, h1, h2, h3⟩ => ⟨evs, h1, h2.below hb, fun k l ev a b => (h3 k l ev a b).below hb⟩
theorem StkR.in {w : World} {va : Value} {ll : List (List Pt)} (h : StkR w va ll) : StkIn w va ll := by
  obtain ⟨evs, h1, h2, h3⟩ := h
  exact Or.inr ⟨evs, h1, h2, fun k l ev a b => Or.inr (h3 k l ev a b)⟩
/-- Opened: the slice, and each chord's value. -/
theorem StkR.open {w : World} {va : Value} {ll : List (List Pt)} (h : StkR w va ll) : ∃ A c, va = .slice A ll.length c ∧ (ll.length : Int) ≤ 9223372036854775807 ∧ (0 < ll.length → ∃ b off, A = some ⟨b, off, none⟩ ∧ ll.length ≤ c ∧ c ≤ 9223372036854775807 ∧ b < w.heap.size ∧
    ∀ (k : Nat) (l : List Pt), ll[k]? = some l → ∃ (A1 : Option Addr) (c1 : Nat), SlAt w (.slice A1 l.length c1) l.length 3 (pcC l) ∧ w.cell? ⟨b, off + k, none⟩ = .some (.slice A1 l.length c1)) := by
  obtain ⟨evs, h1, h2, h3⟩ := h
  obtain ⟨A, c, rfl, nb, hA⟩ := h2.open
  refine ⟨A, c, rfl, nb, fun hp => ?_⟩
  obtain ⟨b, off, rfl, g1, g2, g3⟩ := hA hp
  refine ⟨b, off, rfl, g1, g2, g3, fun k l hk => ?_⟩
  have hlt := (List.getElem?_eq_some_iff.1 hk).1
  obtain ⟨ev, hev⟩ : ∃ ev, evs[k]? = .some ev := ⟨_, List.getElem?_eq_getElem (by omega)⟩
  have hs := h3 k l ev hk hev
  obtain ⟨A1, c1, rfl⟩ := hs.form
  exact ⟨A1, c1, hs, h2.cellAt hev⟩
theorem PtsAt.form {w : World} {v : Value} {l : List Pt} (h : PtsAt w v l) : ∃ a c, v = .slice a l.length c := by
  rcases h with ⟨rfl, a, c, rfl⟩ | h
  · exact ⟨a, c, rfl⟩
  · exact h.form
theorem StkIn.open {w : World} {va : Value} {ll : List (List Pt)} (h : StkIn w va ll) : ∃ A c, va = .slice A ll.length c ∧ (ll.length : Int) ≤ 9223372036854775807 ∧ (0 < ll.length → ∃ b off, A = some ⟨b, off, none⟩ ∧ ll.length ≤ c ∧ c ≤ 9223372036854775807 ∧ b < w.heap.size ∧
    ∀ (k : Nat) (l : List Pt), ll[k]? = some l → ∃ (A1 : Option Addr) (c1 : Nat), PtsAt w (.slice A1 l.length c1) l ∧ w.cell? ⟨b, off + k, none⟩ = .some (.slice A1 l.length c1)) := by
  rcases h with ⟨rfl, a, c, rfl⟩ | ⟨evs, h1, h2, h3⟩
  · exact ⟨a, c, rfl, by simp, fun h => by simp at h⟩
  · obtain ⟨A, c, rfl, nb, hA⟩ := h2.open
    refine ⟨A, c, rfl, nb, fun hp => ?_⟩
    obtain ⟨b, off, rfl, g1, g2, g3⟩ := hA hp
    refine ⟨b, off, rfl, g1, g2, g3, fun k l hk => ?_⟩
    have hlt := (List.getElem?_eq_some_iff.1 hk).1
    obtain ⟨ev, hev⟩ : ∃ ev, evs[k]? = .some ev := ⟨_, List.getElem?_eq_getElem (by omega)⟩
    have hs := h3 k l ev hk hev
    obtain ⟨A1, c1, rfl⟩ := hs.form
    exact ⟨A1, c1, hs, h2.cellAt hev⟩
theorem StkR.of_own {n : Nat} {B : World → Prop} {w : World} {v : Value} {es : List (Value × List Pt)} {L : List Item} (h : Own n B w (.row 23 1 v es.length (vsO es) :: (rwP es ++ L))) : StkR w v (lsO es) := by
  refine ⟨vsO es, by simp, ?_, fun k l ev hs hev => ?_⟩
  · have := SlAt.of_row h.1.1
    rwa [List.length_map]
  · rw [List.getElem?_map] at hs hev
    obtain ⟨p, hp, rfl⟩ := Option.map_eq_some_iff.1 hs
    rw [hp] at hev
    cases hev
    exact SlAt.of_row (h.2.holds (.row 37 3 p.1 p.2.length (pcC p.2)) (List.mem_append_left _ (List.mem_map_of_mem (List.mem_of_getElem? hp))))

/-- What a call that hands back chords leaves. -/
def StkOut (ll : List (List Pt)) (w : World) (e : Ending) (w' : World) : Prop :=
  ∃ (v : Value) (es : List (Value × List Pt)), e = .returned v ∧ lsO es = ll ∧ Own w.heap.size (Below w.heap.size w) w' (.row 23 1 v es.length (vsO es) :: rwP es)
theorem StkOut.mk {w w' : World} {v : Value} {es : List (Value × List Pt)} {ll : List (List Pt)} {k : Nat} (hl : lsO es = ll) (hk : es.length = k) {L : List Item} (h : Own w.heap.size (Below w.heap.size w) w' (.row 23 1 v k (vsO es) :: (rwP es ++ L))) : StkOut ll w (.returned v) w' := by
  subst hk
  refine ⟨v, es, rfl, hl, ?_⟩
  have : ∀ (U L : List Item), Own w.heap.size (Below w.heap.size w) w' (U ++ L) → Own w.heap.size (Below w.heap.size w) w' U := by
    intro U
    induction U with
    | nil => intro L h; exact ⟨h.stab, h.base⟩
    | cons x U ih => intro L h; exact ⟨⟨h.1.1, fun y hy => h.1.2 y (List.mem_append_left _ hy)⟩, ih L h.2⟩
  exact this (.row 23 1 v es.length (vsO es) :: rwP es) L h
theorem Own.joinP {n : Nat} {B : World → Prop} {W w' : World} {L : List Item} (h : Own n B W L) : ∀ {L' : List Item}, Own W.heap.size (Below W.heap.size W) w' L' → Own n B w' (L' ++ L)
  | [], h' => h.below h'.2
  | x :: L', ⟨⟨h1, h2⟩, h3⟩ => by
    have hx : x.Holds n w' := by
      cases x with
      | blk b vs => exact ⟨h1.1, Nat.le_trans h.low h1.2.1, h1.2.2⟩
      | row e size v k xs => exact ownsRow_mono h1 h.low
    refine ⟨⟨hx, fun y hy => ?_⟩, h.joinP h3⟩
    rcases List.mem_append.1 hy with hy | hy
    · exact h2 y hy
    · exact .of fun g hg e => by
        have g1 := (Item.Holds.lt (x := x) h1 g e).1
        have g2 := (h.lt y hy g hg).2
        omega
theorem own_call_stk {P : Program} {f : FuncId} {args : Array Value} {n : Nat} {B : World → Prop} {W : World} {L : List Item} {ll : List (List Pt)} {K : Ending → World → Prop}
    (hO : Own n B W L) (h : B W → Calls P f args W (StkOut ll W)) (k' : ∀ v es w1, lsO es = ll → Own n B w1 (.row 23 1 v es.length (vsO es) :: (rwP es ++ L)) → K (.returned v) w1) : Calls P f args W K :=
  (h hO.base).mono fun e w1 ⟨v, es, he, hE, ho⟩ => by subst he; exact k' v es w1 hE (hO.joinP ho)

theorem infoSt : (Tryd.prog.info? 23).map (fun i => (i.zero, i.size, i.bytes)) = some (some (.slice none 0 0), 1, 24) := by kernel_rfl
theorem madeSt (n : Nat) : (madeCells (Value.slice none 0 0).cells (n * 1)).toList = List.replicate n (Value.slice none 0 0) := by
  have hz : (Value.slice none 0 0).cells = #[.slice none 0 0] := by kernel_rfl
  rw [hz]
  have := made_rep #[Value.slice none 0 0] (by decide) n
  rw [show (#[Value.slice none 0 0] : Array Value).size = 1 from rfl] at this
  rw [this]
  clear this hz
  induction n with
  | zero => rfl
  | succ n ih => rw [List.replicate_succ, List.flatten_cons, ih, List.replicate_succ]; rfl
/-- The first rows are laid, the others nil. -/
def mixSt (es : List (Value × List Pt)) (n : Nat) : List Value := vsO es ++ List.replicate (n - es.length) (.slice none 0 0)
theorem mixSt_put {es : List (Value × List Pt)} {n j : Nat} {p : Value × List Pt} (he : es.length = j) (hj : j < n) : (mixSt es n).set j p.1 = mixSt (es ++ [p]) n := by
  unfold mixSt
  rw [show n - es.length = (n - (j + 1)) + 1 by omega, List.replicate_succ, List.set_append, if_neg (by simp [he]), List.length_map, he, Nat.sub_self, List.set_cons_zero]
  rw [show n - (es ++ [p]).length = n - (j + 1) by rw [List.length_append, he]; rfl]
  simp [vsO]
theorem mixSt_len {es : List (Value × List Pt)} {n : Nat} (h : es.length ≤ n) : (mixSt es n).length = n := by simp [mixSt]; omega
theorem mixSt_full {es : List (Value × List Pt)} {n : Nat} (h : es.length = n) : mixSt es n = vsO es := by simp [mixSt, h]